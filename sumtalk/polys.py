"""Polynomials in one place."""

from sumtalk.checks import check_at_most, check_field, check_number, check_numbers, check_range
from sumtalk.errors import BadText, DivisionByZero, OutOfRange, TalkError
from sumtalk.fields import Field, check_prime
from sumtalk.words import check_text, check_written, read_number, read_numbers, split_words, write_numbers

MAX_COEFFICIENTS = 128


def without_end_zeros(coefficients):
    """The tuple of the coefficients up to the last one that is not 0."""
    length = len(coefficients)
    while length > 0 and coefficients[length - 1] == 0:
        length = length - 1
    return tuple(coefficients[:length])


def added_up(poly, other, sign):
    """The polynomial plus sign times the other one."""
    check_field(poly.prime, other)
    size = max(len(poly.coefficients), len(other.coefficients))
    sums = [0] * size
    for power, coefficient in enumerate(poly.coefficients):
        sums[power] = coefficient
    for power, coefficient in enumerate(other.coefficients):
        sums[power] = (sums[power] + sign * coefficient) % poly.prime
    return Poly(poly.prime, sums)


class Poly:
    """The tuple of its coefficients, lowest power first, without zeros at the end."""

    def __init__(self, prime, coefficients):
        check_prime(prime)
        check_at_most(coefficients, MAX_COEFFICIENTS)
        check_numbers(prime, coefficients)
        self.prime = prime
        self.coefficients = without_end_zeros(coefficients)

    def __iter__(self):
        return iter(self.coefficients)

    def __eq__(self, other):
        return isinstance(other, Poly) and self.prime == other.prime and self.coefficients == other.coefficients

    def __add__(self, other):
        return added_up(self, other, 1)

    def __sub__(self, other):
        return added_up(self, other, -1)

    def __mul__(self, other):
        check_field(self.prime, other)
        size = len(self.coefficients) + len(other.coefficients)
        sums = [0] * size
        for power, coefficient in enumerate(self.coefficients):
            for other_power, other_coefficient in enumerate(other.coefficients):
                together = power + other_power
                sums[together] = (sums[together] + coefficient * other_coefficient) % self.prime
        # The bound is on the product as it is, the constructor's on the row as passed.
        return Poly(self.prime, without_end_zeros(sums))

    def __neg__(self):
        return Poly(self.prime, [-coefficient % self.prime for coefficient in self.coefficients])

    @property
    def degree(self):
        """The highest power with a coefficient that is not 0, and 0 for the zero polynomial."""
        return max(0, len(self.coefficients) - 1)

    def at(self, number):
        """The value at a number."""
        check_number(self.prime, number)
        value = 0
        for coefficient in self.coefficients[::-1]:
            value = (value * number + coefficient) % self.prime
        return value

    def ends(self):
        """The value at 0 plus the value at 1."""
        return (self.at(0) + self.at(1)) % self.prime

    def is_zero(self):
        """True for the zero polynomial."""
        return self.coefficients == ()

    def fits(self, bound):
        """True if the degree is at most the bound."""
        return self.degree <= bound

    def scale(self, number):
        """The polynomial times a number."""
        check_number(self.prime, number)
        return Poly(self.prime, [number * coefficient % self.prime for coefficient in self.coefficients])

    def divide(self, other):
        """The quotient and the remainder."""
        check_field(self.prime, other)
        if other.is_zero():
            raise DivisionByZero()
        inverse = Field(self.prime).invert(other.coefficients[-1])
        size = len(other.coefficients)
        rest = list(self.coefficients)
        quotient = [0] * len(rest)
        for shift in range(len(rest) - size, -1, -1):
            quotient[shift] = rest[shift + size - 1] * inverse % self.prime
            for power, coefficient in enumerate(other.coefficients):
                rest[shift + power] = (rest[shift + power] - quotient[shift] * coefficient) % self.prime
        return Poly(self.prime, quotient), Poly(self.prime, rest)

    def reduced(self):
        """The polynomial of degree below the prime with the same values."""
        sums = [0] * self.prime
        for power, coefficient in enumerate(self.coefficients):
            low = power
            if power >= self.prime:
                low = (power - 1) % (self.prime - 1) + 1
            sums[low] = (sums[low] + coefficient) % self.prime
        return Poly(self.prime, sums)

    def padded(self, many):
        """The list of so many coefficients, zeros behind."""
        check_range(many, 0, MAX_COEFFICIENTS)
        missing = many - len(self.coefficients)
        if missing < 0:
            raise OutOfRange()
        return list(self.coefficients) + [0] * missing

    def text(self):
        """The written form."""
        return f"{self.prime} {write_numbers(self.coefficients)}"


def read_poly(text):
    """The polynomial whose written form the text is."""
    check_text(text)
    words = split_words(text)
    if len(words) != 2:
        raise BadText()
    try:
        poly = Poly(read_number(words[0]), read_numbers(words[1]))
    except TalkError:
        raise BadText() from None
    check_written(text, poly.text())
    return poly


def constant(prime, number):
    """The constant polynomial."""
    return Poly(prime, [number])
