"""Exact shares."""

from math import gcd

from sumtalk.checks import check_figures, is_whole
from sumtalk.errors import BadText, OutOfRange
from sumtalk.words import check_text, check_written, read_number


def check_part(value, least):
    """Check the top or the bottom of a share as it is passed."""
    if not is_whole(value) or value < least:
        raise OutOfRange()
    check_figures(value)


def lowest_share(top, bottom):
    """A share of any size; only the constructor bounds the figures."""
    share = Share(0)
    divisor = gcd(top, bottom)
    share.top = top // divisor
    share.bottom = bottom // divisor
    return share


class Share:
    """A fraction that is not below 0, in lowest terms."""

    def __init__(self, top, bottom=1):
        check_part(top, 0)
        check_part(bottom, 1)
        divisor = gcd(top, bottom)
        self.top = top // divisor
        self.bottom = bottom // divisor

    def __add__(self, other):
        return lowest_share(self.top * other.bottom + other.top * self.bottom, self.bottom * other.bottom)

    def __mul__(self, other):
        return lowest_share(self.top * other.top, self.bottom * other.bottom)

    def __sub__(self, other):
        top = self.top * other.bottom - other.top * self.bottom
        if top < 0:
            raise OutOfRange()
        return lowest_share(top, self.bottom * other.bottom)

    def __eq__(self, other):
        return isinstance(other, Share) and self.top == other.top and self.bottom == other.bottom

    def rest(self):
        """1 minus the share."""
        return Share(1) - self

    def either(self, other):
        """1 minus the product of the two rests."""
        return either_of([self, other])

    def at_most(self, other):
        """True if the share is not above the other one."""
        return self.top * other.bottom <= other.top * self.bottom

    def text(self):
        """The written form."""
        return f"{self.top}/{self.bottom}"


def read_share(text):
    """The share whose written form the text is."""
    check_text(text)
    words = text.split("/")
    if len(words) != 2:
        raise BadText()
    top = read_number(words[0])
    bottom = read_number(words[1])
    if bottom == 0:
        raise BadText()
    share = Share(top, bottom)
    check_written(text, share.text())
    return share


def product_of(shares):
    """The product of a row of shares; 1 for none."""
    result = Share(1)
    for share in shares:
        result = result * share
    return result


def either_of(shares):
    """1 minus the product of all rests; 0 for none."""
    return product_of([share.rest() for share in shares]).rest()
