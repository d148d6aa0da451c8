"""Tellers, and the talks they are asked in."""

from sumtalk.checks import check_at_most, check_field, check_length, check_numbers, check_range
from sumtalk.errors import Repeated
from sumtalk.fields import check_prime
from sumtalk.fillings import round_poly
from sumtalk.journals import MAX_ROUNDS, Journal
from sumtalk.judging import Asker
from sumtalk.points import MAX_LISTED
from sumtalk.polys import Poly


class Teller:
    """Hands in the zero polynomial, always."""

    def __init__(self, prime):
        self.prime = check_prime(prime)

    def hand(self, coins):
        """The hand-in for the coins of all earlier rounds."""
        return Poly(self.prime, ())


class Honest(Teller):
    """Hands in the true round polynomials of a claim's form."""

    def __init__(self, claim):
        Teller.__init__(self, claim.prime)
        self.claim = claim

    def hand(self, coins):
        """The true round polynomial."""
        return round_poly(self.claim.form, coins)


class Told(Teller):
    """Hands in the polynomials of a row, whatever the coins are."""

    def __init__(self, prime, polys):
        Teller.__init__(self, prime)
        check_at_most(polys, MAX_ROUNDS)
        for poly in polys:
            check_field(prime, poly)
        self.polys = tuple(polys)

    def hand(self, coins):
        """The polynomial whose index is the number of coins; zero behind the row."""
        if len(coins) < len(self.polys):
            return self.polys[len(coins)]
        return Poly(self.prime, ())


def read_row(prime, coins, coefficients):
    """The pair of a tuple of coins and the polynomial, checked."""
    check_at_most(coins, MAX_ROUNDS)
    check_numbers(prime, coins)
    return tuple(coins), Poly(prime, coefficients)


class Rows(Teller):
    """Hands in for each row of coins the polynomial that is told for it."""

    def __init__(self, prime, rows):
        Teller.__init__(self, prime)
        check_at_most(rows, MAX_LISTED)
        pairs = [read_row(prime, coins, coefficients) for coins, coefficients in rows]
        self.answers = {row: poly for row, poly in pairs}
        if len(self.answers) < len(pairs):
            raise Repeated()

    def hand(self, coins):
        """The polynomial told for these coins; zero if there is none."""
        return self.answers.get(tuple(coins), Poly(self.prime, ()))


class Changed(Teller):
    """Hands in what another teller hands in, with a polynomial added in one round."""

    def __init__(self, inner, at, poly):
        check_range(at, 1, MAX_ROUNDS)
        check_field(inner.prime, poly)
        Teller.__init__(self, inner.prime)
        self.inner = inner
        self.coins_ahead = at - 1
        self.added = poly

    def hand(self, coins):
        """What the inner teller hands in, changed in the one round."""
        hand_in = self.inner.hand(list(coins))
        if len(coins) == self.coins_ahead:
            return hand_in + self.added
        return hand_in


class Counted(Teller):
    """Hands in what another teller hands in, and counts calls and coefficients."""

    def __init__(self, inner):
        Teller.__init__(self, inner.prime)
        self.inner = inner
        self.calls = 0
        self.numbers_sent = 0

    def hand(self, coins):
        """What the inner teller hands in; counted once it has returned."""
        hand_in = self.inner.hand(list(coins))
        self.calls = self.calls + 1
        self.numbers_sent = self.numbers_sent + len(hand_in.coefficients)
        return hand_in


def talk(claim, teller, coins):
    """The journal of the teller's talk on the claim with these coins."""
    check_length(coins, claim.places)
    check_numbers(claim.prime, coins)
    asker = Asker(claim)
    rounds = []
    for at, coin in enumerate(coins):
        hand_in = teller.hand(list(coins[:at]))
        rounds.append((hand_in, coin))
        if not asker.take(hand_in, coin):
            break
    return Journal(claim.prime, claim.total, rounds)


def hand_ins(teller, coins):
    """The list of what the teller hands in for each beginning of the coins but the whole."""
    check_numbers(teller.prime, coins)
    return [teller.hand(list(coins[:at])) for at in range(len(coins))]
