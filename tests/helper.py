"""What the tests of all modules share."""

import copy
import itertools
import unittest

from sumtalk.errors import BadText, NotInField, NotPrime, OutOfRange
from sumtalk.forms import Form

# One value of each kind that is no integer, and no text that a reader accepts.
OTHER_KINDS = (True, False, None, "1", "", 1.0, b"1", [1], (1,))
NO_PRIMES = (4, 1, 0, -5, 103, 10 ** 6000) + OTHER_KINDS
HUGE = (10 ** 400, -10 ** 400)
NO_TEXTS = (None, True, 5, 1.5, b"1", ["1"], ("1",))


def kinds_of(value):
    """The kind of a value, and those of its items at every level."""
    if isinstance(value, (list, tuple)):
        return (type(value), [kinds_of(item) for item in value])
    return type(value)


def as_lists(value):
    """The value with every tuple in it made a list."""
    if isinstance(value, (list, tuple)):
        return [as_lists(item) for item in value]
    return value


def as_tuples(value):
    """The value with every list in it made a tuple."""
    if isinstance(value, (list, tuple)):
        return tuple(as_tuples(item) for item in value)
    return value


def some_forms(prime, places):
    """Several forms in so many places, the zero form ahead."""
    grid = list(itertools.product((0, 1, 3), repeat=places))
    return [
        Form(prime, places, []),
        Form(prime, places, [((0,) * places, prime - 1)]),
        Form(prime, places, [(exponents, (5 * at + 1) % prime) for at, exponents in enumerate(grid)]),
        Form(prime, places, [(exponents, (at * at + 2) % prime) for at, exponents in enumerate(grid[::-2])]),
    ]


def plain_value(form, point):
    """The value of a form, term by term."""
    total = 0
    for exponents, coefficient in form.terms:
        for number, exponent in zip(point, exponents):
            coefficient *= number ** exponent
        total += coefficient
    return total % form.prime


def plain_sum(form, coins=()):
    """The sum of the values over all corners of the places behind the coins."""
    corners = itertools.product((0, 1), repeat=form.places - len(coins))
    return sum(plain_value(form, (*coins, *corner)) for corner in corners) % form.prime


def plain_round(form, coins):
    """The coefficients of the true round polynomial, without zeros at the end."""
    sums = [0] * 13
    for exponents, coefficient in form.terms:
        for coin, exponent in zip(coins, exponents):
            coefficient *= coin ** exponent
        for exponent in exponents[len(coins) + 1:]:
            coefficient *= 2 if exponent == 0 else 1
        sums[exponents[len(coins)]] += coefficient
    sums = [number % form.prime for number in sums]
    while sums and sums[-1] == 0:
        sums.pop()
    return tuple(sums)


def all_points(prime, places):
    """All points, in lexicographic order."""
    return list(itertools.product(range(prime), repeat=places))


def near_texts(text):
    """All texts that differ from a text in one place, by some characters."""
    marks = " 0129.-|:x\n"
    for at in range(len(text) + 1):
        yield text[:at] + text[at + 1:]
        for mark in marks:
            yield text[:at] + mark + text[at:]
            yield text[:at] + mark + text[at + 1:]


class Alien:
    """A teller that is none of the program's and has no prime: it keeps and spoils the lists that it is passed."""

    def __init__(self, answer):
        self.answer = answer
        self.lists = []
        self.asked = []

    def hand(self, *arguments):
        (coins,) = arguments
        if type(coins) is not list or any(coins is earlier for earlier in self.lists):
            raise AssertionError("no new list")
        row = tuple(coins)
        self.lists.append(coins)
        self.asked.append(row)
        coins.append("spoiled")
        return self.answer(row)


class Case(unittest.TestCase):
    """A test case that also looks at kinds and at the very class of an error."""

    def same(self, actual, expected):
        """Equal, and of the same kinds at every level, so that True is not 1."""
        self.assertEqual(actual, expected)
        self.assertEqual(kinds_of(actual), kinds_of(expected))

    def error(self, expected, call, *arguments, **named):
        """The error that a call raises, which is of exactly the class expected."""
        try:
            answer = call(*arguments, **named)
        except Exception as error:
            self.assertIs(type(error), expected)
            return error
        self.fail(f"{answer!r} instead of {expected.__name__}")

    def keeps(self, call, *arguments):
        """Rows as lists and as tuples are answered alike, and stay as they were."""
        lists = as_lists(arguments)
        ahead = copy.deepcopy(lists)
        answer = call(*lists)
        self.same(lists, ahead)
        self.assertEqual(call(*as_tuples(arguments)), answer)
        return answer

    def new_list(self, call, *arguments):
        """Every call returns a list of its own."""
        first = call(*arguments)
        self.assertIs(type(first), list)
        ahead = list(first)
        first.append("changed")
        first[0] = "changed"
        self.same(call(*arguments), ahead)

    def no_prime(self, call):
        """The call refuses whatever is no prime of a field."""
        for wrong in NO_PRIMES:
            self.assertIs(self.error(NotPrime, call, wrong).value, wrong)

    def no_number(self, prime, call, none=True):
        """The call refuses whatever is no number of the field (None as told), and takes the least and greatest one."""
        for wrong in (-1, prime, prime + 1) + HUGE + OTHER_KINDS:
            if wrong is None and not none:
                continue
            self.assertIs(self.error(NotInField, call, wrong).value, wrong)
        call(0)
        call(prime - 1)

    def no_range(self, least, most, call):
        """The call refuses whatever is no integer from least to most, and takes these two."""
        for wrong in (least - 1, most + 1) + HUGE + OTHER_KINDS:
            self.error(OutOfRange, call, wrong)
        call(least)
        call(most)

    def reads_its_own(self, reader, writer, text):
        """The text is read and written back, and a text near it is refused or is that of another value."""
        value = reader(text)
        self.same(writer(value), text)
        for near in near_texts(text):
            if near == text:
                continue
            try:
                other = reader(near)
            except Exception as error:
                self.assertIs(type(error), BadText)
            else:
                self.same(writer(other), near)
                self.assertFalse(other == value)
