"""Roots of polynomials, polynomials through points, and all rows of numbers."""

from sumtalk.checks import check_at_most, check_field, check_numbers, check_range
from sumtalk.errors import Repeated, TooLarge
from sumtalk.fields import Field, check_prime, whole_power
from sumtalk.polys import MAX_COEFFICIENTS, Poly, constant

MAX_PAIRS = 101
MAX_LISTED = 1024


def roots_of(poly):
    """The list of the numbers at which the value is 0, ascending."""
    return [number for number in range(poly.prime) if poly.at(number) == 0]


def root_factor(prime, number):
    """The polynomial X - number."""
    return Poly(prime, (-number % prime, 1))


def from_roots(prime, numbers):
    """The product of X - number over the row."""
    check_prime(prime)
    check_at_most(numbers, MAX_COEFFICIENTS - 1)
    check_numbers(prime, numbers)
    result = constant(prime, 1)
    for number in numbers:
        result = result * root_factor(prime, number)
    return result


def agreements(poly, other):
    """The list of the numbers at which the two have the same value, ascending."""
    check_field(poly.prime, other)
    return [number for number in range(poly.prime) if poly.at(number) == other.at(number)]


def same_values(poly, other):
    """True if the two have the same value at every number."""
    return len(agreements(poly, other)) == poly.prime


def through(prime, pairs):
    """The polynomial of least degree through pairs (x, y)."""
    check_prime(prime)
    check_at_most(pairs, MAX_PAIRS)
    for x, y in pairs:
        check_numbers(prime, (x, y))
    if len(set([x for x, _ in pairs])) < len(pairs):
        raise Repeated()
    field = Field(prime)
    found = constant(prime, 0)
    vanishing = constant(prime, 1)
    # By Newton: what is added for a pair is 0 at the pairs ahead of it.
    for x, y in pairs:
        missing = field.subtract(y, found.at(x))
        found = found + vanishing.scale(field.divide(missing, vanishing.at(x)))
        vanishing = vanishing * root_factor(prime, x)
    return found


def through_values(prime, numbers):
    """The polynomial through (0, first number), (1, second number), .."""
    check_prime(prime)
    check_at_most(numbers, prime)
    return through(prime, list(enumerate(numbers)))


def rows_made(prime, many):
    """The list of all rows of so many numbers, in lexicographic order, however many rows there are."""
    rows = [()]
    for _ in range(many):
        rows = [(*row, number) for row in rows for number in range(prime)]
    return rows


def all_rows(prime, many):
    """The list of all rows of so many numbers, in lexicographic order."""
    check_prime(prime)
    check_range(many, 0, MAX_COEFFICIENTS)
    if whole_power(prime, many) > MAX_LISTED:
        raise TooLarge()
    return rows_made(prime, many)


def all_polys(prime, degree):
    """The list of all polynomials of at most that degree, in order of their coefficients."""
    check_prime(prime)
    check_range(degree, 0, MAX_COEFFICIENTS - 1)
    return [Poly(prime, row) for row in all_rows(prime, degree + 1)]
