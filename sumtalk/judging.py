"""Judging journals against claims, at once and round by round."""

from sumtalk.checks import check_field
from sumtalk.journals import check_round

LET_BY = (None, "let by")


class Asker:
    """Takes rounds one by one, and keeps the first verdict for ever."""

    def __init__(self, claim):
        self.claim = claim
        self.prime = claim.prime
        self.due = claim.total
        self.taken = 0
        self.coins = ()
        self.verdict = None

    def take(self, poly, coin):
        """True if the round fits; otherwise False, and the verdict tells why."""
        check_round(self.prime, poly, coin)
        if self.verdict is not None:
            return False
        self.verdict = self.why_broken(poly)
        if self.verdict is not None:
            return False
        self.due = poly.at(coin)
        self.taken = self.taken + 1
        self.coins = (*self.coins, coin)
        return True

    def why_broken(self, poly):
        """The verdict of a round that does not fit, None of one that does."""
        number = self.taken + 1
        if number > self.claim.places:
            return (number, "long")
        if poly.degree > self.claim.degrees[self.taken]:
            return (number, "degree")
        if poly.ends() != self.due:
            return (number, "sum")
        return None

    def finish(self):
        """The verdict if no more rounds come."""
        if self.verdict is not None:
            return self.verdict
        if self.taken < self.claim.places:
            return (self.taken + 1, "short")
        if self.due != self.claim.form.at(self.coins):
            return (self.taken + 1, "look")
        return LET_BY


def judge(claim, journal):
    """The verdict of a journal against a claim: a tuple of the round and the reason."""
    check_field(claim.prime, journal)
    if journal.total != claim.total:
        return (0, "total")
    asker = Asker(claim)
    for poly, coin in journal.rounds:
        asker.take(poly, coin)
    return asker.finish()


def is_let_by(claim, journal):
    """True if the journal is let by."""
    return judge(claim, journal) == LET_BY
