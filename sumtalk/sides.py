"""Talks side by side, each with coins of its own."""

from sumtalk.checks import check_at_most, check_field, check_length, check_numbers
from sumtalk.counts import Remembering, liar_share
from sumtalk.errors import WrongPlaces
from sumtalk.journals import Journal
from sumtalk.judging import Asker, is_let_by
from sumtalk.points import all_rows
from sumtalk.shares import Share, product_of
from sumtalk.tellers import Teller

MAX_SIDES = 4


def check_claims(claims):
    """Check a row of at most 4 claims over one prime."""
    check_at_most(claims, MAX_SIDES)
    for claim in claims:
        check_field(claims[0].prime, claim)


def schedule_of(claims):
    """The pairs of a claim's index and a round, by round and then by index."""
    most = max([claim.places for claim in claims], default=0)
    return [(index, number) for number in range(1, most + 1) for index, claim in enumerate(claims)
            if number <= claim.places]


def side_schedule(claims):
    """The list of the pairs of a claim's index, from 0, and a round, from 1, as they are played."""
    check_claims(claims)
    return schedule_of(claims)


class SideTeller(Teller):
    """Asks for each pair the teller of its claim, which sees the coins of its own talk alone."""

    def __init__(self, claims, tellers):
        check_claims(claims)
        if len(claims) == 0:
            raise WrongPlaces()
        check_length(tellers, len(claims))
        Teller.__init__(self, claims[0].prime)
        self.schedule = tuple(schedule_of(claims))
        self.tellers = tuple(tellers)

    def hand(self, coins):
        """The hand-in for the next pair of the schedule."""
        if len(coins) >= len(self.schedule):
            raise WrongPlaces()
        index, _ = self.schedule[len(coins)]
        own_coins = [coin for coin, (other, _) in zip(coins, self.schedule) if other == index]
        return self.tellers[index].hand(own_coins)


def cut_behind_break(claim, rounds):
    """The journal of the rounds up to the first one that is broken."""
    asker = Asker(claim)
    played = []
    for poly, coin in rounds:
        played.append((poly, coin))
        if not asker.take(poly, coin):
            break
    return Journal(claim.prime, claim.total, played)


def played_side(claims, teller, coins):
    """The list of the journals of the talks on claims and coins that are checked."""
    rounds = [[] for _ in claims]
    for at, (index, _) in enumerate(schedule_of(claims)):
        hand_in = teller.hand(list(coins[:at]))
        check_field(claims[0].prime, hand_in)
        rounds[index].append((hand_in, coins[at]))
    return [cut_behind_break(claim, row) for claim, row in zip(claims, rounds)]


def side_talk(claims, teller, coins):
    """The list of the journals, one for each claim, of the talks side by side."""
    check_claims(claims)
    check_length(coins, len(schedule_of(claims)))
    if len(claims) > 0:
        check_numbers(claims[0].prime, coins)
    return played_side(claims, teller, coins)


def all_let_by(claims, journals):
    """True if each journal is let by against its claim."""
    return all([is_let_by(claim, journal) for claim, journal in zip(claims, journals)])


def side_let_by(claims, journals):
    """True if each journal is let by against the claim with its index."""
    check_claims(claims)
    check_length(journals, len(claims))
    for journal in journals:
        check_field(claims[0].prime, journal)
    return all_let_by(claims, journals)


def side_share(claims):
    """The greatest share of all side tellers, by rule."""
    check_claims(claims)
    return product_of([liar_share(claim) for claim in claims])


def side_share_of(claims, teller):
    """The share of the flat rows of coins on which all of the side teller's talks are let by."""
    check_claims(claims)
    if len(claims) == 0:
        return Share(1)
    rows = all_rows(claims[0].prime, len(schedule_of(claims)))
    asked = Remembering(teller)
    let_by = [row for row in rows if all_let_by(claims, played_side(claims, asked, row))]
    return Share(len(let_by), len(rows))
