"""Layer talks: circuits whose outputs are checked layer by layer, their journals and their judge."""

from sumtalk.checks import check_at_most, check_length, check_number, check_numbers, check_range
from sumtalk.circuits import ADD, MUL, check_inputs, check_layer, layer_form, wiring_at
from sumtalk.claims import Claim
from sumtalk.errors import BadText, TalkError
from sumtalk.fields import check_prime
from sumtalk.fillings import TABLE_LENGTHS, check_table, filling, filling_at
from sumtalk.forms import MAX_PLACES
from sumtalk.journals import MAX_ROUNDS, Journal, check_round, read_round, round_lines
from sumtalk.judging import LET_BY
from sumtalk.polys import Poly
from sumtalk.words import check_text, check_written, read_number, read_numbers, split_words, write_numbers

MAX_OUTPUTS = 4
MAX_START = 2
ROUND = "round"
LINE = "line"
ROUND_DEGREE = 2


def check_line(prime, a, b):
    """Check two points with as many numbers, at most 5."""
    check_at_most(a, MAX_PLACES)
    check_numbers(prime, a)
    check_length(b, len(a))
    check_numbers(prime, b)


def line_through(prime, a, b):
    """The list of the polynomials of the line through two points."""
    return [Poly(prime, (left, (right - left) % prime)) for left, right in zip(a, b)]


def line_polys(prime, a, b):
    """The list of the polynomials of the line through a, at 0, and b, at 1."""
    check_prime(prime)
    check_line(prime, a, b)
    return line_through(prime, a, b)


def line_point(prime, a, b, number):
    """The point of the line at a number."""
    check_prime(prime)
    check_line(prime, a, b)
    check_number(prime, number)
    return tuple([poly.at(number) for poly in line_through(prime, a, b)])


def line_poly(prime, table, a, b):
    """The filling of a table along the line, a polynomial in the number of its point."""
    check_prime(prime)
    check_table(prime, table, TABLE_LENGTHS)
    form = filling(prime, table)
    for point in (a, b):
        check_length(point, form.places)
        check_numbers(prime, point)
    return form.put_in(line_through(prime, a, b))


def layer_schedule(circuit):
    """The list of the triples (layer, what, degree), one for each hand-in of a whole talk."""
    schedule = []
    for layer in range(circuit.depth):
        bits = circuit.bits(layer + 1)
        schedule.extend([(layer, ROUND, ROUND_DEGREE)] * (2 * bits))
        schedule.append((layer, LINE, bits))
    return schedule


def coin_total(circuit):
    """The number of coins of a whole talk."""
    return circuit.bits(0) + len(layer_schedule(circuit))


class LayerJournal:
    """A prime, told outputs, a start point and rounds; it need not fit any circuit."""

    def __init__(self, prime, outputs, start, rounds):
        check_prime(prime)
        check_at_most(outputs, MAX_OUTPUTS)
        check_numbers(prime, outputs)
        check_at_most(start, MAX_START)
        check_numbers(prime, start)
        check_at_most(rounds, MAX_ROUNDS)
        for poly, coin in rounds:
            check_round(prime, poly, coin)
        self.prime = prime
        self.outputs = tuple(outputs)
        self.start = tuple(start)
        self.rounds = tuple([(poly, coin) for poly, coin in rounds])
        self.polys = tuple([poly for poly, _ in self.rounds])
        self.coins = self.start + tuple([coin for _, coin in self.rounds])

    def __eq__(self, other):
        return (isinstance(other, LayerJournal) and self.prime == other.prime and self.outputs == other.outputs
                and self.start == other.start and self.rounds == other.rounds)

    @property
    def length(self):
        """The number of rounds."""
        return len(self.rounds)

    def cut(self, at):
        """The journal of the first rounds."""
        check_range(at, 0, self.length)
        return LayerJournal(self.prime, self.outputs, self.start, self.rounds[:at])

    def replaced(self, at, poly, *, coin=None):
        """The journal with one round replaced, from 1; without a coin the round keeps its coin."""
        check_range(at, 1, self.length)
        _, old_coin = self.rounds[at - 1]
        new_coin = old_coin if coin is None else coin
        check_round(self.prime, poly, new_coin)
        rounds = list(self.rounds)
        rounds[at - 1] = (poly, new_coin)
        return LayerJournal(self.prime, self.outputs, self.start, rounds)

    def text(self):
        """The written form."""
        first = f"{self.prime} {write_numbers(self.outputs)} {write_numbers(self.start)}"
        return "\n".join([first] + round_lines(self.rounds))


def read_layer_journal(text):
    """The layer journal whose written form the text is."""
    check_text(text)
    first, *lines = text.split("\n")
    words = split_words(first)
    if len(words) != 3:
        raise BadText()
    prime = read_number(words[0])
    outputs = read_numbers(words[1])
    start = read_numbers(words[2])
    try:
        journal = LayerJournal(prime, outputs, start, [read_round(prime, line) for line in lines])
    except TalkError:
        raise BadText() from None
    check_written(text, journal.text())
    return journal


def halves(coins):
    """The points x and y that the coins of a layer's rounds are."""
    half = len(coins) // 2
    return tuple(coins[:half]), tuple(coins[half:])


class LayerAsker:
    """Takes the hand-ins of a layer talk one by one, and keeps the first verdict for ever."""

    def __init__(self, circuit, prime, outputs, start):
        self.circuit = circuit
        self.prime = prime
        self.schedule = tuple(layer_schedule(circuit))
        self.due = filling_at(prime, outputs, start)
        self.z = tuple(start)
        self.layer_coins = ()
        self.taken = 0
        self.verdict = None

    def take(self, poly, coin):
        """True if the hand-in fits; otherwise False, and the verdict tells why."""
        check_round(self.prime, poly, coin)
        if self.verdict is not None:
            return False
        self.verdict = self.why_broken(poly)
        if self.verdict is not None:
            return False
        _, what, _ = self.schedule[self.taken]
        self.due = poly.at(coin)
        self.taken = self.taken + 1
        if what == LINE:
            x, y = halves(self.layer_coins)
            self.z = line_point(self.prime, x, y, coin)
            self.layer_coins = ()
        else:
            self.layer_coins = (*self.layer_coins, coin)
        return True

    def why_broken(self, poly):
        """The verdict of a hand-in that does not fit, None of one that does."""
        number = self.taken + 1
        if number > len(self.schedule):
            return (number, "long")
        layer, what, degree = self.schedule[self.taken]
        if poly.degree > degree:
            return (number, "degree")
        if what == ROUND and poly.ends() != self.due:
            return (number, "sum")
        if what == LINE and self.line_value(layer, poly) != self.due:
            return (number, "line")
        return None

    def line_value(self, layer, poly):
        """What a line hand-in makes of the layer's gates, which is to be the owed number."""
        x, y = halves(self.layer_coins)
        adds = wiring_at(self.circuit, self.prime, layer, ADD, self.z, x, y)
        muls = wiring_at(self.circuit, self.prime, layer, MUL, self.z, x, y)
        return (adds * poly.ends() + muls * poly.at(0) * poly.at(1)) % self.prime

    def finish(self, inputs):
        """The verdict if no more hand-ins come."""
        if self.verdict is not None:
            return self.verdict
        if self.taken < len(self.schedule):
            return (self.taken + 1, "short")
        if self.due != filling_at(self.prime, inputs, self.z):
            return (self.taken + 1, "look")
        return LET_BY


def judge_layers(circuit, journal, inputs):
    """The verdict of a layer journal against a circuit and inputs."""
    check_inputs(circuit, journal.prime, inputs)
    if len(journal.outputs) != circuit.widths[0]:
        return (0, "outputs")
    if len(journal.start) != circuit.bits(0):
        return (0, "start")
    asker = LayerAsker(circuit, journal.prime, journal.outputs, journal.start)
    for poly, coin in journal.rounds:
        asker.take(poly, coin)
    return asker.finish(inputs)


def played_layers(circuit, prime, outputs, teller, coins):
    """The layer journal of a talk on coins that are checked."""
    bits = circuit.bits(0)
    start = coins[:bits]
    asker = LayerAsker(circuit, prime, outputs, start)
    rounds = []
    for at in range(bits, len(coins)):
        hand_in = teller.hand(list(coins[:at]))
        rounds.append((hand_in, coins[at]))
        if not asker.take(hand_in, coins[at]):
            break
    return LayerJournal(prime, outputs, start, rounds)


def layer_talk(circuit, teller, coins):
    """The layer journal of the teller's talk with these coins, the start first."""
    check_length(coins, coin_total(circuit))
    check_numbers(teller.prime, coins)
    return played_layers(circuit, teller.prime, teller.outputs, teller, coins)


def layer_claim(circuit, prime, inputs, layer, z, number):
    """The claim that a number is the corner sum of the layer form."""
    form = layer_form(circuit, prime, inputs, layer, z)
    check_number(prime, number)
    return Claim(form, degrees=[ROUND_DEGREE] * form.places, total=number)


def check_whole_start(circuit, journal):
    """Raise WrongPlaces unless a layer journal has the outputs and the start of a whole talk."""
    check_length(journal.outputs, circuit.widths[0])
    check_length(journal.start, circuit.bits(0))


def owed_in(journal):
    """The list of the owed numbers of a layer journal, from the start on."""
    first = filling_at(journal.prime, journal.outputs, journal.start)
    return [first] + [poly.at(coin) for poly, coin in journal.rounds]


def layer_part(circuit, journal, layer):
    """The journal of the rounds of a layer, without its line; its total is the owed number ahead of them."""
    check_layer(circuit, layer)
    check_whole_start(circuit, journal)
    check_length(journal.rounds, len(layer_schedule(circuit)))
    parts = [part for part, _, _ in layer_schedule(circuit)]
    first = parts.index(layer)
    rounds = journal.rounds[first:first + 2 * circuit.bits(layer + 1)]
    return Journal(journal.prime, owed_in(journal)[first], rounds)
