"""Tellers of layer talks: honest ones, liars, and what is true ahead of each hand-in."""

from sumtalk.checks import check_at_most, check_length, check_numbers
from sumtalk.circuits import ADD, MUL, circuit_values, form_over, wiring_at
from sumtalk.errors import WrongPlaces
from sumtalk.fields import Field, check_prime
from sumtalk.fillings import filling_at, round_poly, tail_sum
from sumtalk.layers import MAX_OUTPUTS, ROUND_DEGREE, coin_total, halves, line_point, line_poly
from sumtalk.liars import best_unit
from sumtalk.polys import Poly
from sumtalk.tellers import Rows, Teller


def parts_of_talk(circuit, prime, coins):
    """For each layer that the coins reach, the triple of z, the coins of its rounds, and its line's coin or None."""
    at = circuit.bits(0)
    z = tuple(coins[:at])
    found = []
    for layer in range(circuit.depth):
        rounds = 2 * circuit.bits(layer + 1)
        own = tuple(coins[at:at + rounds])
        at = at + rounds
        if at >= len(coins):
            return found + [(z, own, None)]
        found.append((z, own, coins[at]))
        x, y = halves(own)
        z = line_point(prime, x, y, coins[at])
        at = at + 1
    # The inputs are the last layer.
    return found + [(z, (), None)]


def check_coin_number(circuit, coins, most):
    """Raise WrongPlaces for fewer coins than the start has, and for more than most."""
    if not circuit.bits(0) <= len(coins) <= most:
        raise WrongPlaces()


def owed_over(circuit, prime, tables, coins):
    """The list of the true owed numbers over the values of all layers."""
    owed = []
    for layer, (z, own, _) in enumerate(parts_of_talk(circuit, prime, coins)):
        if layer == circuit.depth:
            owed.append(filling_at(prime, tables[layer], z))
        else:
            # Without coins of the layer's own, the tail sum is the value at z of the layer's filling.
            form = form_over(circuit, prime, tables, layer, z)
            owed.extend([tail_sum(form, own[:many]) for many in range(len(own) + 1)])
    return owed


def true_owed(circuit, prime, inputs, coins):
    """The list of the true owed numbers for these coins, from the start on."""
    tables = circuit_values(circuit, prime, inputs)
    check_coin_number(circuit, coins, coin_total(circuit))
    check_numbers(prime, coins)
    return owed_over(circuit, prime, tables, coins)


def hand_in_over(circuit, prime, tables, coins):
    """The true hand-in over the values of all layers."""
    parts = parts_of_talk(circuit, prime, coins)
    layer = len(parts) - 1
    z, own, _ = parts[layer]
    if len(own) < 2 * circuit.bits(layer + 1):
        return round_poly(form_over(circuit, prime, tables, layer, z), own)
    x, y = halves(own)
    return line_poly(prime, tables[layer + 1], x, y)


def true_hand_in(circuit, prime, inputs, coins):
    """The true hand-in behind these coins."""
    tables = circuit_values(circuit, prime, inputs)
    check_coin_number(circuit, coins, coin_total(circuit) - 1)
    check_numbers(prime, coins)
    return hand_in_over(circuit, prime, tables, coins)


class LayerHonest(Teller):
    """Tells the true outputs and hands in the true hand-ins."""

    def __init__(self, circuit, prime, inputs):
        Teller.__init__(self, prime)
        self.circuit = circuit
        self.tables = circuit_values(circuit, prime, inputs)
        self.outputs = tuple(self.tables[0])

    def hand(self, coins):
        """The true hand-in behind the flat coins."""
        check_coin_number(self.circuit, coins, coin_total(self.circuit) - 1)
        return hand_in_over(self.circuit, self.prime, self.tables, coins)


class LayerLiar(Teller):
    """Tells given outputs, and hides what is wrong with them behind best units and lines."""

    def __init__(self, circuit, prime, inputs, outputs):
        Teller.__init__(self, prime)
        tables = circuit_values(circuit, prime, inputs)
        check_length(outputs, circuit.widths[0])
        check_numbers(prime, outputs)
        self.circuit = circuit
        self.tables = tables
        self.outputs = tuple(outputs)
        self.unit = best_unit(prime, ROUND_DEGREE)

    def hand(self, coins):
        """The hand-in behind the flat coins."""
        check_coin_number(self.circuit, coins, coin_total(self.circuit) - 1)
        true_poly = hand_in_over(self.circuit, self.prime, self.tables, coins)
        parts = parts_of_talk(self.circuit, self.prime, coins)
        layer = len(parts) - 1
        wrong = self.wrong_behind(parts)
        _, own, _ = parts[layer]
        if len(own) < 2 * self.circuit.bits(layer + 1):
            return true_poly + self.unit.scale(wrong)
        factor = self.line_factor(layer, parts[layer], wrong)
        return true_poly + Poly(self.prime, (factor, -factor % self.prime))

    def wrong_behind(self, parts):
        """The owed number minus the true one, behind all coins of the parts of a talk."""
        start, _, _ = parts[0]
        told = filling_at(self.prime, self.outputs, start)
        wrong = (told - filling_at(self.prime, self.tables[0], start)) % self.prime
        for layer, (z, own, line_coin) in enumerate(parts):
            for coin in own:
                wrong = wrong * self.unit.at(coin) % self.prime
            if line_coin is not None:
                wrong = self.line_factor(layer, (z, own, line_coin), wrong) * (1 - line_coin) % self.prime
        return wrong

    def line_factor(self, layer, part, wrong):
        """The factor of 1 - X by which a line hand-in hides what is wrong, or 0 where it gives up."""
        z, own, _ = part
        x, y = halves(own)
        adds = wiring_at(self.circuit, self.prime, layer, ADD, z, x, y)
        muls = wiring_at(self.circuit, self.prime, layer, MUL, z, x, y)
        divisor = (adds + muls * filling_at(self.prime, self.tables[layer + 1], y)) % self.prime
        # Above a layer of one value the line has degree 0, so nothing can be added.
        if len(own) == 0 or divisor == 0:
            return 0
        return Field(self.prime).divide(wrong, divisor)


class LayerTold(Rows):
    """Tells given outputs, and hands in for each flat row of coins the polynomial that is told for it."""

    def __init__(self, prime, outputs, rows):
        check_prime(prime)
        check_at_most(outputs, MAX_OUTPUTS)
        check_numbers(prime, outputs)
        Rows.__init__(self, prime, rows)
        self.outputs = tuple(outputs)

    def hand(self, coins):
        """The polynomial told for these coins; zero if there is none."""
        return super().hand(coins)
