"""Liars: units, papers of units, and the tellers that follow them."""

from sumtalk.checks import check_at_most, check_field, check_numbers
from sumtalk.counts import round_roots
from sumtalk.errors import BadPaper, BadText, NoUnit, TalkError, WrongPlaces
from sumtalk.fields import Field, check_prime
from sumtalk.fillings import round_poly, tail_sum
from sumtalk.journals import MAX_ROUNDS
from sumtalk.points import from_roots, roots_of
from sumtalk.polys import Poly
from sumtalk.shares import Share, either_of
from sumtalk.tellers import Teller
from sumtalk.words import check_text, check_written, read_number, read_numbers, split_words, write_numbers

NO_ENTRY = "none"


def unit_poly(prime, numbers):
    """The polynomial with these roots and the ends 1."""
    product = from_roots(prime, numbers)
    ends = product.ends()
    if ends == 0:
        raise NoUnit()
    return product.scale(Field(prime).invert(ends))


def best_unit(prime, degree):
    """The unit of at most this degree with the most roots, or None if there is no unit."""
    many = round_roots(prime, degree)
    if prime == 2 and many == 0:
        return None
    # With 1 among its roots beside 0, a product has the ends 0.
    return unit_poly(prime, ([0] + list(range(2, prime)))[:many])


class Paper:
    """What a liar adds in each round: a polynomial, or None where it gives up."""

    def __init__(self, prime, units):
        check_prime(prime)
        check_at_most(units, MAX_ROUNDS)
        for unit in units:
            if unit is not None:
                check_field(prime, unit)
        self.prime = prime
        self.units = tuple(units)

    def __eq__(self, other):
        return isinstance(other, Paper) and self.prime == other.prime and self.units == other.units

    def root_counts(self):
        """The list of the numbers of roots of all entries, None for None."""
        return [None if unit is None else len(roots_of(unit)) for unit in self.units]

    def share(self):
        """1 minus the product of 1 - z/p over the entries ahead of the first None, with z their roots."""
        counts = self.root_counts()
        if None in counts:
            counts = counts[:counts.index(None)]
        return either_of([Share(count, self.prime) for count in counts])

    def text(self):
        """The written form."""
        words = [NO_ENTRY if unit is None else write_numbers(unit.coefficients) for unit in self.units]
        return " ".join([str(self.prime)] + words)


def read_entry(prime, word):
    """The entry that a word of a paper tells."""
    if word == NO_ENTRY:
        return None
    return Poly(prime, read_numbers(word))


def read_paper(text):
    """The paper whose written form the text is."""
    check_text(text)
    words = split_words(text)
    if not words:
        raise BadText()
    prime = read_number(words[0])
    try:
        paper = Paper(prime, [read_entry(prime, word) for word in words[1:]])
    except TalkError:
        raise BadText() from None
    check_written(text, paper.text())
    return paper


def is_paper(claim, paper):
    """True if the paper is good for the claim."""
    if paper.prime != claim.prime or len(paper.units) != claim.places:
        return False
    entries = [(unit, degree) for unit, degree in zip(paper.units, claim.degrees) if unit is not None]
    return all([unit.ends() == 1 and unit.fits(degree) for unit, degree in entries])


def check_paper(claim, paper):
    """Raise BadPaper unless the paper is good for the claim."""
    if not is_paper(claim, paper):
        raise BadPaper()


def best_paper(claim):
    """The paper of the best units of the told degrees."""
    return Paper(claim.prime, [best_unit(claim.prime, degree) for degree in claim.degrees])


def errors_behind(claim, paper, coins):
    """The list of the errors: at the start, and behind the round of each coin."""
    errors = [claim.error()]
    for unit, coin in zip(paper.units, coins):
        value = 0 if unit is None else unit.at(coin)
        errors.append(errors[-1] * value % claim.prime)
    return errors


class Liar(Teller):
    """Hands in the true round polynomials, and in each the error times the paper's entry."""

    def __init__(self, claim, paper):
        check_field(claim.prime, paper)
        check_paper(claim, paper)
        Teller.__init__(self, claim.prime)
        self.claim = claim
        self.paper = paper

    def hand(self, coins):
        """The hand-in for the coins of all earlier rounds."""
        true_poly = round_poly(self.claim.form, coins)
        unit = self.paper.units[len(coins)]
        if unit is None:
            return true_poly
        return true_poly + unit.scale(errors_behind(self.claim, self.paper, coins)[-1])


def error_row(claim, paper, coins):
    """The list of the liar's errors, one more than coins."""
    check_field(claim.prime, paper)
    if len(coins) > claim.places:
        raise WrongPlaces()
    check_numbers(claim.prime, coins)
    check_paper(claim, paper)
    return errors_behind(claim, paper, coins)


def difference_polys(claim, journal):
    """The list of the hand-ins minus the true round polynomials, up to the number of places."""
    check_field(claim.prime, journal)
    polys = journal.polys[:claim.places]
    return [poly - round_poly(claim.form, journal.coins[:at]) for at, poly in enumerate(polys)]


def lucky_round(claim, journal):
    """The first round behind which the owed number is the true one, or None."""
    check_field(claim.prime, journal)
    for at, owed in enumerate(journal.owed()[:claim.places + 1]):
        if owed == tail_sum(claim.form, journal.coins[:at]):
            return at
    return None
