"""Checks of arguments that several modules share."""

from sumtalk.errors import NotInField, OtherField, OutOfRange, TooLarge, WrongPlaces

# The least integer with 301 figures; exponents above 64 are not written.
TEN_TO_300 = (10 ** 60) ** 5


def is_whole(value):
    """True for an integer; a bool is none."""
    return isinstance(value, int) and not isinstance(value, bool)


def is_number(prime, value):
    """True for a number of the field of the prime."""
    return is_whole(value) and 0 <= value < prime


def check_number(prime, value):
    """Raise NotInField unless the value is a number of the field."""
    if not is_number(prime, value):
        raise NotInField(value)


def check_numbers(prime, numbers):
    """Raise NotInField of the first item that is no number of the field."""
    for number in numbers:
        check_number(prime, number)


def check_range(value, least, most):
    """Raise OutOfRange unless the value is an integer from least to most."""
    if not is_whole(value) or not least <= value <= most:
        raise OutOfRange()


def check_at_most(row, most):
    """Raise TooLarge for a row with more items."""
    if len(row) > most:
        raise TooLarge()


def check_length(row, length):
    """Raise WrongPlaces for a row of another length."""
    if len(row) != length:
        raise WrongPlaces()


def check_field(prime, thing):
    """Raise OtherField for an object over another prime."""
    if thing.prime != prime:
        raise OtherField()


def check_figures(integer):
    """Raise TooLarge for an integer, of either sign, with more than 300 figures."""
    if not -TEN_TO_300 < integer < TEN_TO_300:
        raise TooLarge()
