"""Exact counts of models, by claims over several primes."""

from sumtalk.checks import TEN_TO_300, check_at_most, check_length, check_number, check_numbers, check_range
from sumtalk.counts import rule_share
from sumtalk.errors import Repeated
from sumtalk.fields import MAX_PRIME, Field, check_prime, primes_to
from sumtalk.forms import MAX_PLACES
from sumtalk.formulas import check_formula, check_taken, counting_claim, models, occurrences
from sumtalk.judging import LET_BY, is_let_by
from sumtalk.shares import product_of
from sumtalk.tellers import Honest, talk

MAX_PRIMES = 8


def check_primes(primes):
    """Check a row of at most 8 different primes."""
    check_at_most(primes, MAX_PRIMES)
    for prime in primes:
        check_prime(prime)
    if len(set(primes)) < len(primes):
        raise Repeated()


def exceeds(primes, places):
    """True if the product of the primes is above the number of corners."""
    product = 1
    for prime in primes:
        product = product * prime
    return product > 1 << places


def least_primes(places):
    """The shortest beginning of the row of all primes that is enough."""
    check_range(places, 0, MAX_PLACES)
    found = []
    for prime in primes_to(MAX_PRIME):
        if exceeds(found, places):
            break
        found.append(prime)
    return found


def are_enough(primes, places):
    """True if the product of the primes is above 2 to the power of the places."""
    check_primes(primes)
    check_range(places, 0, MAX_PLACES)
    return exceeds(primes, places)


def residues(count, primes):
    """The list of the count modulo each prime."""
    check_range(count, 0, TEN_TO_300)
    check_primes(primes)
    return [count % prime for prime in primes]


def from_residues(primes, remainders):
    """The only integer from 0 to the product of the primes, minus 1, with these residues."""
    check_primes(primes)
    check_length(remainders, len(primes))
    for prime, remainder in zip(primes, remainders):
        check_number(prime, remainder)
    found = 0
    product = 1
    # What is added for a prime is a multiple of the primes ahead of it, so their residues stay.
    for prime, remainder in zip(primes, remainders):
        missing = (remainder - found) % prime
        found = found + product * Field(prime).divide(missing, product % prime)
        product = product * prime
    return found


def check_counted(formula, places):
    """Check a formula and a number of places, but not that the places are enough for it."""
    check_formula(formula)
    check_range(places, 0, MAX_PLACES)


def count_journals(formula, places, primes, coin_rows):
    """The list of the honest teller's journals on the true counting claim, one for each prime."""
    check_counted(formula, places)
    check_primes(primes)
    check_length(coin_rows, len(primes))
    for prime, coins in zip(primes, coin_rows):
        check_length(coins, places)
        check_numbers(prime, coins)
    check_taken(formula, places)
    claims = [counting_claim(formula, prime, places) for prime in primes]
    return [talk(claim, Honest(claim), coins) for claim, coins in zip(claims, coin_rows)]


def judge_count(formula, places, count, parts):
    """The verdict on a count that is checked by journals over several primes."""
    check_counted(formula, places)
    check_range(count, 0, TEN_TO_300)
    check_at_most(parts, MAX_PRIMES)
    check_taken(formula, places)
    if count > 1 << places:
        return (0, "count")
    seen = []
    for ahead, journal in enumerate(parts):
        if journal.prime in seen:
            return (ahead + 1, "prime")
        if not is_let_by(counting_claim(formula, journal.prime, places, count=count), journal):
            return (ahead + 1, "talk")
        seen.append(journal.prime)
    if not exceeds(seen, places):
        return (len(parts) + 1, "primes")
    return LET_BY


def lie_shares(formula, places, primes, counts):
    """The list of the lie shares of the counts."""
    told = occurrences(formula, places)
    true_count = len(models(formula, places))
    shares = [rule_share(prime, told) for prime in primes]
    found = []
    for count in counts:
        missed = [share for prime, share in zip(primes, shares) if (count - true_count) % prime != 0]
        found.append(product_of(missed))
    return found


def lie_share(formula, places, primes, count):
    """The product of the rule shares over the primes modulo which the count is false."""
    check_counted(formula, places)
    check_primes(primes)
    check_range(count, 0, TEN_TO_300)
    check_taken(formula, places)
    return lie_shares(formula, places, primes, [count])[0]


def best_lie(formula, places, primes):
    """The pair of the false count with the greatest lie share, the least one of a tie, and that share."""
    check_counted(formula, places)
    check_primes(primes)
    check_taken(formula, places)
    true_count = len(models(formula, places))
    counts = [count for count in range((1 << places) + 1) if count != true_count]
    shares = lie_shares(formula, places, primes, counts)
    best = 0
    for at, share in enumerate(shares):
        if not share.at_most(shares[best]):
            best = at
    return (counts[best], shares[best])
