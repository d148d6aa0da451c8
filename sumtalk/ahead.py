"""Talks whose coins are told ahead by a rule, and the journals that are let by then."""

from sumtalk.checks import check_at_most, check_field, check_number, check_numbers
from sumtalk.errors import TooLarge, WrongPlaces
from sumtalk.fields import check_prime, whole_power
from sumtalk.journals import Journal
from sumtalk.judging import LET_BY, Asker
from sumtalk.points import MAX_LISTED, all_polys

MAX_RULED = 1024


class Rule:
    """Tells a coin for a row of numbers: the last of the states that the numbers lead through."""

    def __init__(self, prime, first, factor):
        check_prime(prime)
        check_number(prime, first)
        check_number(prime, factor)
        self.prime = prime
        self.first = first
        self.factor = factor

    def __call__(self, numbers):
        check_at_most(numbers, MAX_RULED)
        check_numbers(self.prime, numbers)
        state = self.first
        for number in numbers:
            state = (state * state + self.factor * state + number) % self.prime
        return state

    def __eq__(self, other):
        return (isinstance(other, Rule) and self.prime == other.prime and self.first == other.first
                and self.factor == other.factor)


def coin_for(claim, rule, polys):
    """The coin of the last of the rounds with these hand-ins, which are checked."""
    row = [claim.total]
    for poly, degree in zip(polys, claim.degrees):
        row.extend(poly.padded(max(degree + 1, len(poly.coefficients))))
    return rule(row)


def told_coin(claim, rule, polys):
    """The coin of the last of the rounds with these hand-ins."""
    check_field(claim.prime, rule)
    if not 1 <= len(polys) <= claim.places:
        raise WrongPlaces()
    for poly in polys:
        check_field(claim.prime, poly)
    return coin_for(claim, rule, polys)


def judge_ahead(claim, rule, journal):
    """The verdict of a journal whose coins are to be those told ahead."""
    check_field(claim.prime, rule)
    check_field(claim.prime, journal)
    if journal.total != claim.total:
        return (0, "total")
    asker = Asker(claim)
    for at, (poly, coin) in enumerate(journal.rounds):
        if not asker.take(poly, coin):
            break
        if coin != coin_for(claim, rule, journal.polys[:at + 1]):
            return (at + 1, "coin")
    return asker.finish()


def talk_ahead(claim, teller, rule):
    """The journal of the teller's talk on the claim with the coins that the rule tells."""
    check_field(claim.prime, rule)
    asker = Asker(claim)
    polys = []
    coins = []
    for _ in range(claim.places):
        hand_in = teller.hand(list(coins))
        check_field(claim.prime, hand_in)
        polys.append(hand_in)
        coins.append(coin_for(claim, rule, polys))
        if not asker.take(hand_in, coins[-1]):
            break
    return Journal(claim.prime, claim.total, list(zip(polys, coins)))


def journals_behind(claim, rule, journal):
    """The list of the journals with one round more, which fits and has its told coin."""
    owed = journal.owed()[-1]
    polys = all_polys(claim.prime, claim.degrees[journal.length])
    fitting = [poly for poly in polys if poly.ends() == owed]
    return [journal.extended(poly, coin_for(claim, rule, [*journal.polys, poly])) for poly in fitting]


def all_ahead(claim, rule):
    """The list of all journals with a round for each place that judging with the rule lets by."""
    check_field(claim.prime, rule)
    many = sum([degree + 1 for degree in claim.degrees])
    if whole_power(claim.prime, many) > MAX_LISTED:
        raise TooLarge()
    journals = [Journal(claim.prime, claim.total, [])]
    # Place by place, so that a journal is given up at its first round that does not fit.
    for _ in range(claim.places):
        journals = [longer for journal in journals for longer in journals_behind(claim, rule, journal)]
    return [journal for journal in journals if judge_ahead(claim, rule, journal) == LET_BY]
