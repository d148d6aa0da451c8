"""Shares of layer tellers: counted over all flat rows of coins, bounded by rule, found by search."""

from sumtalk.checks import check_length, check_numbers
from sumtalk.circuits import ADD, MUL, check_inputs, wiring_at
from sumtalk.counts import Remembering, round_roots
from sumtalk.errors import TooLarge
from sumtalk.fields import check_prime, whole_power
from sumtalk.fillings import filling_at
from sumtalk.judging import LET_BY
from sumtalk.layers import (ROUND_DEGREE, check_whole_start, coin_total, halves, judge_layers, layer_schedule,
                            line_point, owed_in, played_layers)
from sumtalk.layertellers import true_owed
from sumtalk.points import all_polys, all_rows, rows_made
from sumtalk.shares import Share, either_of

MAX_LAYER_COST = 6000


def layer_rows(circuit, teller, inputs):
    """The list of the flat rows of coins on which the teller's talk is let by."""
    prime = teller.prime
    check_inputs(circuit, prime, inputs)
    rows = all_rows(prime, coin_total(circuit))
    # Rows with one beginning share their first hand-ins.
    asked = Remembering(teller)
    found = []
    for row in rows:
        journal = played_layers(circuit, prime, teller.outputs, asked, row)
        if judge_layers(circuit, journal, inputs) == LET_BY:
            found.append(row)
    return found


def layer_share_of(circuit, teller, inputs):
    """The share of the flat rows of coins on which the teller's talk is let by."""
    many = len(layer_rows(circuit, teller, inputs))
    return Share(many, whole_power(teller.prime, coin_total(circuit)))


def layer_bound(circuit, prime):
    """A share that no layer teller with false outputs exceeds."""
    check_prime(prime)
    degrees = [degree for _, _, degree in layer_schedule(circuit)]
    starts = [Share(1, prime)] * circuit.bits(0)
    return either_of(starts + [Share(round_roots(prime, degree), prime) for degree in degrees])


def layer_search_cost(circuit, prime):
    """The cost of a layer search."""
    check_prime(prime)
    cost = whole_power(prime, circuit.bits(0))
    for layer in range(circuit.depth):
        bits = circuit.bits(layer + 1)
        lines = whole_power(prime, 3 * bits + 2)
        rounds = sum([whole_power(prime, many + 4) for many in range(2 * bits)])
        cost = cost + whole_power(prime, circuit.bits(layer) + 1) * (lines + rounds)
    return cost


def value_rows(prime, degree):
    """The list of the rows of values, at all numbers, of all polynomials of at most this degree."""
    return [[poly.at(number) for number in range(prime)] for poly in all_polys(prime, degree)]


def greatest_counts(prime, tables, answers):
    """By owed number, the greatest count that an answer reaches; each has an owed number and a value for each coin."""
    best = [0] * prime
    for owed, values in answers:
        count = sum([table[value] for table, value in zip(tables, values)])
        best[owed] = max(best[owed], count)
    return best


def counts_at(circuit, prime, layer, z, behind):
    """By owed number, the value of a layer at z; behind has that of the next layer for each of its points."""
    bits = circuit.bits(layer + 1)
    lines = value_rows(prime, bits)
    found = {}
    for row in rows_made(prime, 2 * bits):
        x, y = halves(row)
        adds = wiring_at(circuit, prime, layer, ADD, z, x, y)
        muls = wiring_at(circuit, prime, layer, MUL, z, x, y)
        answers = [((adds * (values[0] + values[1]) + muls * values[0] * values[1]) % prime, values)
                   for values in lines]
        tables = [behind[line_point(prime, x, y, coin)] for coin in range(prime)]
        found[row] = greatest_counts(prime, tables, answers)
    if bits > 0:
        add_rounds(prime, 2 * bits, found)
    return found[()]


def add_rounds(prime, rounds, found):
    """Find the values of the rows of fewer coins from those of rows of all coins."""
    answers = [((values[0] + values[1]) % prime, values) for values in value_rows(prime, ROUND_DEGREE)]
    for many in range(rounds - 1, -1, -1):
        for row in rows_made(prime, many):
            tables = [found[row + (coin,)] for coin in range(prime)]
            found[row] = greatest_counts(prime, tables, answers)


def layer_search(circuit, prime, inputs, outputs):
    """The greatest share of all layer tellers that tell these outputs, found without the bound."""
    check_prime(prime)
    check_inputs(circuit, prime, inputs)
    check_length(outputs, circuit.widths[0])
    check_numbers(prime, outputs)
    if layer_search_cost(circuit, prime) > MAX_LAYER_COST:
        raise TooLarge()
    behind = {}
    for point in rows_made(prime, circuit.bits(circuit.depth)):
        value = filling_at(prime, inputs, point)
        behind[point] = [1 if owed == value else 0 for owed in range(prime)]
    for layer in range(circuit.depth - 1, -1, -1):
        behind = {z: counts_at(circuit, prime, layer, z, behind) for z in rows_made(prime, circuit.bits(layer))}
    count = sum([counts[filling_at(prime, outputs, start)] for start, counts in behind.items()])
    return Share(count, whole_power(prime, coin_total(circuit)))


def lucky_hand_in(circuit, journal, inputs):
    """The number of the first hand-in behind which the owed number is the true one, 0 for the start, or None."""
    check_inputs(circuit, journal.prime, inputs)
    check_whole_start(circuit, journal)
    coins = journal.coins[:coin_total(circuit)]
    true_numbers = true_owed(circuit, journal.prime, inputs, coins)
    for at, (owed, true_number) in enumerate(zip(owed_in(journal), true_numbers)):
        if owed == true_number:
            return at
    return None
