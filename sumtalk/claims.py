"""Claims: a form, a told degree for each place, and a total."""

from sumtalk.checks import check_length, check_number, check_range
from sumtalk.errors import BadText, DegreeTooHigh, TalkError
from sumtalk.fillings import corner_sum, filling
from sumtalk.forms import MAX_DEGREE, read_form
from sumtalk.words import check_text, check_written, read_number, read_numbers, split_words, write_numbers


def check_told(form, degrees):
    """Check a row with a told degree for each place of the form."""
    check_length(degrees, form.places)
    for degree in degrees:
        check_range(degree, 0, MAX_DEGREE)


def check_high_enough(form, degrees):
    """Raise DegreeTooHigh if the form has a degree above the told one."""
    for degree, told in zip(form.degrees, degrees):
        if degree > told:
            raise DegreeTooHigh()


class Claim:
    """The claim that the corner sum of a form is the total."""

    def __init__(self, form, *, degrees=None, total=None):
        if degrees is not None:
            check_told(form, degrees)
            told = tuple(degrees)
        else:
            told = form.degrees
        if total is not None:
            check_number(form.prime, total)
        check_high_enough(form, told)
        self.form = form
        self.degrees = told
        self.total = corner_sum(form) if total is None else total
        self.prime = form.prime
        self.places = form.places

    def __eq__(self, other):
        return (isinstance(other, Claim) and self.form == other.form and self.degrees == other.degrees
                and self.total == other.total)

    def true_total(self):
        """The corner sum of the form."""
        return corner_sum(self.form)

    def is_true(self):
        """True if the total is the corner sum."""
        return self.error() == 0

    def error(self):
        """The total minus the corner sum."""
        return (self.total - self.true_total()) % self.prime

    def with_total(self, total):
        """The claim with another total."""
        # The constructor takes None as the true total.
        check_number(self.prime, total)
        return Claim(self.form, degrees=self.degrees, total=total)

    def text(self):
        """The written form."""
        return f"{self.form.text()} | {self.total} {write_numbers(self.degrees)}"


def read_claim(text):
    """The claim whose written form the text is."""
    check_text(text)
    form_text, _, told_text = text.partition(" | ")
    words = split_words(told_text)
    if len(words) != 2:
        raise BadText()
    total = read_number(words[0])
    degrees = read_numbers(words[1])
    try:
        claim = Claim(read_form(form_text), degrees=degrees, total=total)
    except TalkError:
        raise BadText() from None
    check_written(text, claim.text())
    return claim


def table_claim(prime, table, total=None):
    """The claim on the filling of a table, with all told degrees 1."""
    form = filling(prime, table)
    return Claim(form, degrees=[1] * form.places, total=total)
