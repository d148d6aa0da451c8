"""Batches: several claims that are checked by one talk."""

from sumtalk.checks import check_at_most, check_field, check_length, check_number, check_numbers, check_range
from sumtalk.claims import Claim
from sumtalk.counts import let_by_rows, rule_share
from sumtalk.errors import OtherCoins, TooLarge, WrongPlaces
from sumtalk.fields import check_prime, whole_power
from sumtalk.forms import weighted_form
from sumtalk.journals import Journal
from sumtalk.liars import Liar, best_paper
from sumtalk.points import MAX_LISTED, from_roots, roots_of
from sumtalk.polys import MAX_COEFFICIENTS, Poly, constant
from sumtalk.shares import Share

MAX_BATCH = 8


def check_batch_size(row):
    """Check that a row has 1 to 8 items."""
    check_at_most(row, MAX_BATCH)
    if len(row) == 0:
        raise WrongPlaces()


class Batch:
    """A row of 1 to 8 claims over one prime with one number of places."""

    def __init__(self, claims):
        check_batch_size(claims)
        first = claims[0]
        for claim in claims:
            check_field(first.prime, claim)
            if claim.places != first.places:
                raise WrongPlaces()
        self.claims = tuple(claims)
        self.prime = first.prime
        self.places = first.places
        self.degrees = tuple([max([one.degrees[at] for one in claims]) for at in range(first.places)])

    def errors(self):
        """The list of the errors of the claims."""
        return [claim.error() for claim in self.claims]

    def is_true(self):
        """True if all claims are true."""
        return all([claim.is_true() for claim in self.claims])

    def combined(self, numbers):
        """The claim that is the sum of the claims, each times its weight."""
        check_length(numbers, len(self.claims))
        check_numbers(self.prime, numbers)
        form = weighted_form([claim.form for claim in self.claims], numbers)
        total = sum([number * claim.total for number, claim in zip(numbers, self.claims)]) % self.prime
        return Claim(form, degrees=self.degrees, total=total)

    def combined_by(self, number):
        """The claim combined by the powers of a number."""
        return self.combined(powers(self.prime, number, len(self.claims)))


def powers(prime, number, many):
    """The list of the first powers of a number, from power 0."""
    check_prime(prime)
    check_number(prime, number)
    check_range(many, 0, MAX_COEFFICIENTS)
    row = []
    power = 1
    for _ in range(many):
        row.append(power)
        power = power * number % prime
    return row


def bad_numbers(batch):
    """The list of the numbers by which the batch combined is true."""
    return roots_of(Poly(batch.prime, batch.errors()))


def share_with(batch, lucky):
    """The share of a false batch whose weights make it true by so many numbers; 1 for a true one."""
    if batch.is_true():
        return Share(1)
    return Share(lucky, batch.prime).either(rule_share(batch.prime, batch.degrees))


def batch_share(batch):
    """The greatest share of all tellers if one number is drawn for all weights."""
    return share_with(batch, len(bad_numbers(batch)))


def free_share(batch):
    """The greatest share of all tellers if each weight is drawn separately."""
    return share_with(batch, 1)


def most_bad_numbers(prime, many):
    """The greatest number of bad numbers of a false batch of so many claims."""
    check_prime(prime)
    check_range(many, 1, MAX_COEFFICIENTS)
    return min(many - 1, prime)


def worst_errors(prime, many):
    """The list of errors of so many claims with the most bad numbers."""
    product = from_roots(prime, list(range(most_bad_numbers(prime, many))))
    return product.padded(many)


def worst_batch_share(prime, many, degrees):
    """The greatest batch share of all false batches of so many claims with these degrees."""
    most = most_bad_numbers(prime, many)
    return Share(most, prime).either(rule_share(prime, degrees))


def batch_rows(batch):
    """The list of the rows of a number and coins on which the best liar is let by."""
    if whole_power(batch.prime, batch.places + 1) > MAX_LISTED:
        raise TooLarge()
    claims = [batch.combined_by(number) for number in range(batch.prime)]
    rows = []
    for number, claim in enumerate(claims):
        liar = Liar(claim, best_paper(claim))
        rows.extend([(number, *row) for row in let_by_rows(claim, liar)])
    return rows


def weighted_poly(prime, polys, numbers):
    """The sum of the polynomials, each times its weight."""
    total = constant(prime, 0)
    for poly, number in zip(polys, numbers):
        total = total + poly.scale(number)
    return total


def mix_journals(journals, numbers):
    """The journal that is the sum of the journals, each times its weight; the coins stay."""
    check_batch_size(journals)
    first = journals[0]
    for journal in journals:
        check_field(first.prime, journal)
    check_length(numbers, len(journals))
    check_numbers(first.prime, numbers)
    for journal in journals:
        if journal.coins != first.coins:
            raise OtherCoins()
    total = sum([number * journal.total for number, journal in zip(numbers, journals)]) % first.prime
    rounds = []
    for at, coin in enumerate(first.coins):
        polys = [journal.polys[at] for journal in journals]
        rounds.append((weighted_poly(first.prime, polys, numbers), coin))
    return Journal(first.prime, total, rounds)
