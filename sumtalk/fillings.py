"""Corners, sums over them, and the fillings of tables."""

from sumtalk.checks import check_at_most, check_length, check_number, check_numbers, check_range
from sumtalk.errors import WrongPlaces
from sumtalk.fields import check_prime
from sumtalk.forms import MAX_PLACES, Form
from sumtalk.points import MAX_LISTED, all_rows
from sumtalk.polys import Poly

TABLE_LENGTHS = (1, 2, 4, 8, 16, 32)


def corners(places):
    """The list of all corners, in lexicographic order."""
    check_range(places, 0, MAX_PLACES)
    # The numbers over the prime 2 are those of a corner.
    return all_rows(2, places)


def corner_at(places, at):
    """The corner with an index."""
    rows = corners(places)
    check_range(at, 0, len(rows) - 1)
    return rows[at]


def check_corner(corner):
    """Check a row of at most 5 integers that are 0 or 1."""
    check_at_most(corner, MAX_PLACES)
    for bit in corner:
        check_range(bit, 0, 1)


def index_of(corner):
    """The index of a corner."""
    check_corner(corner)
    index = 0
    for bit in corner:
        index = 2 * index + bit
    return index


def sum_over(form, points):
    """The sum of the values at a row of points."""
    check_at_most(points, MAX_LISTED)
    return sum([form.at(point) for point in points]) % form.prime


def corner_factor(exponents):
    """The sum of a product of powers over all corners: 2 for each exponent 0, 1 for each other one."""
    return 1 << exponents.count(0)


def corner_sum(form):
    """The sum of the values over all corners."""
    return sum([number * corner_factor(exponents) for exponents, number in form.terms]) % form.prime


def tail_sum(form, coins):
    """The corner sum with the first places fixed to the coins."""
    return corner_sum(form.fix(coins))


def round_poly(form, coins):
    """The true round polynomial in the place behind the coins."""
    if len(coins) >= form.places:
        raise WrongPlaces()
    left = form.fix(coins)
    sums = [0] * (left.degrees[0] + 1)
    for exponents, number in left.terms:
        power = exponents[0]
        sums[power] = (sums[power] + number * corner_factor(exponents[1:])) % form.prime
    return Poly(form.prime, sums)


def corner_weight(prime, corner, point):
    """The weight of a corner at a point."""
    check_prime(prime)
    check_corner(corner)
    check_length(point, len(corner))
    check_numbers(prime, point)
    weight = 1
    for bit, number in zip(corner, point):
        weight = weight * (number if bit == 1 else 1 - number) % prime
    return weight


def corner_weights(prime, point):
    """The list of the weights of all corners at a point, by index."""
    check_prime(prime)
    check_at_most(point, MAX_PLACES)
    check_numbers(prime, point)
    weights = [1]
    for number in point:
        weights = [weight * factor % prime for weight in weights for factor in (1 - number, number)]
    return weights


def check_table(prime, table, lengths):
    """Check a row of numbers that has one of the lengths."""
    if len(table) not in lengths:
        raise WrongPlaces()
    check_numbers(prime, table)


def filling(prime, table):
    """The form of degree at most 1 in each place with the table's values at the corners."""
    check_prime(prime)
    check_table(prime, table, TABLE_LENGTHS)
    values = list(table)
    # Place by place, a value at 0 and one at 1 become a coefficient without and with the place.
    bit = 1
    while bit < len(values):
        values = [value - values[at - bit] if at & bit else value for at, value in enumerate(values)]
        bit = 2 * bit
    places = TABLE_LENGTHS.index(len(values))
    return Form(prime, places, [(corner, value % prime) for corner, value in zip(corners(places), values)])


def table_of(form):
    """The list of the values at all corners, by index."""
    return [form.at(corner) for corner in corners(form.places)]


def folded(prime, table, number):
    """The list of half the length; number 0 gives the first half, number 1 the second one."""
    half = len(table) // 2
    return [((1 - number) * table[at] + number * table[at + half]) % prime for at in range(half)]


def filling_at(prime, table, point):
    """The value of the filling at a point."""
    check_prime(prime)
    check_table(prime, table, TABLE_LENGTHS)
    check_length(point, TABLE_LENGTHS.index(len(table)))
    check_numbers(prime, point)
    values = list(table)
    for number in point:
        values = folded(prime, values, number)
    return values[0]


def fold(prime, table, number):
    """The table of the filling with its first place fixed to a number."""
    check_prime(prime)
    check_table(prime, table, TABLE_LENGTHS[1:])
    check_number(prime, number)
    return folded(prime, table, number)


def is_low(form):
    """True if the degree in each place is at most 1."""
    return all([degree <= 1 for degree in form.degrees])
