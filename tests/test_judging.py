"""Points [30] and [32] and the entry sumtalk/judging.py."""

import itertools

from sumtalk import judging
from sumtalk.claims import Claim, read_claim
from sumtalk.errors import NotInField, OtherField
from sumtalk.forms import Form
from sumtalk.journals import Journal, read_journal
from sumtalk.judging import Asker, is_let_by, judge
from sumtalk.polys import Poly
from helper import Case, plain_round, plain_value, some_forms

FORM = Form(5, 2, [((0, 1), 3), ((2, 0), 1)])
CLAIM = Claim(FORM, degrees=[3, 1])
ZERO, FOREIGN = Poly(5, []), Poly(7, [1])
LOOK_AT_ONCE = Claim(Form(5, 0, [((), 3)]))


def plain_verdict(claim, journal):
    """The verdict, check by check as the document lists them."""
    places = claim.places
    if journal.total != claim.total:
        return (0, "total")
    owed = claim.total
    for k, (poly, coin) in enumerate(journal.rounds, 1):
        if k > places:
            return (places + 1, "long")
        if len(poly.coefficients) - 1 > claim.degrees[k - 1]:
            return (k, "degree")
        if (poly.at(0) + poly.at(1)) % claim.prime != owed:
            return (k, "sum")
        owed = poly.at(coin)
    if len(journal.rounds) < places:
        return (len(journal.rounds) + 1, "short")
    if owed != plain_value(claim.form, journal.coins):
        return (places + 1, "look")
    return (None, "let by")


def honest_rounds(form, coins):
    return [(Poly(form.prime, plain_round(form, coins[:k])), coin) for k, coin in enumerate(coins)]


def many_journals(claim):
    """Honest journals, and such as are broken in all ways."""
    prime, places = claim.prime, claim.places
    added = [Poly(prime, []), Poly(prime, [1]), Poly(prime, [1, prime - 2]), Poly(prime, [0] * 4 + [1]),
             Poly(prime, [0, 1]), Poly(prime, [0] * 12 + [1])]
    for coins in list(itertools.product(range(min(prime, 3)), repeat=places))[:9]:
        rounds = honest_rounds(claim.form, coins)
        for total in {claim.total, (claim.total + 1) % prime}:
            for length in range(places + 1):
                yield Journal(prime, total, rounds[:length])
            yield Journal(prime, total, [*rounds, (Poly(prime, []), 0)])
            yield Journal(prime, total, [*rounds, (Poly(prime, [0] * 13 + [1]), 0)] + [(Poly(prime, [1]), 1)] * 3)
            for at, poly in itertools.product(range(places), added):
                changed = list(rounds)
                changed[at] = (rounds[at][0] + poly, coins[at])
                yield Journal(prime, total, changed)
                yield Journal(prime, total, changed[:at + 1])
                changed[-1] = (changed[-1][0] + poly, coins[-1])
                yield Journal(prime, total, changed)


class Judging(Case):
    def test_example_of_the_document(self):
        claim = read_claim("5 1 1:1 | 2 1")
        self.same(judge(claim, Journal(5, 2, [(Poly(5, [0, 2]), 3)])), (2, "look"))

    def test_many_journals(self):
        seen = set()
        for prime in (2, 5, 101):
            for places in range(4):
                for form in some_forms(prime, places):
                    for claim in (Claim(form), Claim(form, degrees=[12] * places), Claim(form, total=0),
                                  Claim(form, total=prime - 1)):
                        for journal in many_journals(claim):
                            verdict = plain_verdict(claim, journal)
                            seen.add(verdict)
                            self.same(judge(claim, journal), verdict)
                            self.same(is_let_by(claim, journal), verdict == (None, "let by"))
        for number, why in ((None, "let by"), (0, "total"), (1, "degree"), (3, "degree"), (1, "sum"), (3, "sum"),
                            (1, "short"), (3, "short"), (1, "look"), (4, "look"), (1, "long"), (4, "long")):
            self.assertIn((number, why), seen)

    def test_honest_journals_are_let_by(self):
        for coins in itertools.product(range(5), repeat=2):
            journal = Journal(5, 3, honest_rounds(FORM, coins))
            self.same(judge(claim=CLAIM, journal=journal), (None, "let by"))
            self.same(is_let_by(claim=CLAIM, journal=journal), True)

    def test_no_places(self):
        self.same(judge(LOOK_AT_ONCE, Journal(5, 3, [])), (None, "let by"))
        self.same(judge(LOOK_AT_ONCE.with_total(4), Journal(5, 4, [])), (1, "look"))
        self.same(judge(LOOK_AT_ONCE, Journal(5, 4, [])), (0, "total"))
        self.same(judge(LOOK_AT_ONCE, Journal(5, 3, [(Poly(5, [1] * 50), 0)])), (1, "long"))
        self.same(judge(LOOK_AT_ONCE.with_total(4), Journal(5, 4, [(ZERO, 0)] * 32)), (1, "long"))

    def test_which_check_comes_first(self):
        rounds = honest_rounds(FORM, [2, 3])
        high = Poly(5, [0] * 5 + [1])
        # The total, ahead of all else.
        self.same(judge(CLAIM, Journal(5, 4, [(high, 0)] * 3)), (0, "total"))
        # A degree ahead of the sum of its round, both ahead of what is wrong in later rounds.
        self.same(judge(CLAIM, Journal(5, 3, [(high, 0), (high, 0), (ZERO, 0)])), (1, "degree"))
        self.same(judge(CLAIM, Journal(5, 3, [(ZERO, 0), (high, 0), (ZERO, 0)])), (1, "sum"))
        self.same(judge(CLAIM, Journal(5, 3, [rounds[0], (high, 0), (ZERO, 0)])), (2, "degree"))
        self.same(judge(CLAIM, Journal(5, 3, [rounds[0], (ZERO, 0), (ZERO, 0)])), (2, "sum"))
        self.same(judge(CLAIM, Journal(5, 3, [rounds[0], (ZERO, 0)])), (2, "sum"))
        # A round too many, ahead of its degree, its sum and the look.
        wrong = (rounds[1][0] + Poly(5, [1, 3]), 4)
        self.same(judge(CLAIM, Journal(5, 3, [rounds[0], wrong, (high, 0)])), (3, "long"))
        self.same(judge(CLAIM, Journal(5, 3, [rounds[0], wrong])), (3, "look"))
        # A round is missing only behind rounds that fit.
        self.same(judge(CLAIM, Journal(5, 3, rounds[:1])), (2, "short"))
        self.same(judge(CLAIM, Journal(5, 3, [])), (1, "short"))
        self.same(judge(CLAIM, Journal(5, 3, [(high, 0)])), (1, "degree"))

    def test_told_degrees_are_what_counts(self):
        claim = Claim(Form(5, 1, []), degrees=[3])
        # It sums to 0 at both ends, and is of the told degree.
        fits = Poly(5, [0, 4, 0, 1])
        self.same(judge(claim, Journal(5, 0, [(fits, 0)])), (None, "let by"))
        self.same(judge(Claim(Form(5, 1, []), degrees=[2]), Journal(5, 0, [(fits, 0)])), (1, "degree"))
        # Degrees are formal: X and its square are the same everywhere over 2.
        form = Form(2, 1, [((1,), 1)])
        self.same(judge(Claim(form), Journal(2, 1, [(Poly(2, [0, 0, 1]), 1)])), (1, "degree"))
        self.same(judge(Claim(form, degrees=[2]), Journal(2, 1, [(Poly(2, [0, 0, 1]), 1)])), (None, "let by"))

    def test_the_coin_of_the_last_round_counts(self):
        claim = read_claim("5 1 1:1 | 2 1")
        for word, expected in (("4.1", [(1, "sum")] * 5), ("3.1", [(2, "look")] * 5),
                               ("1", [(2, "look"), (None, "let by"), (2, "look"), (2, "look"), (2, "look")])):
            self.same([judge(claim, read_journal(f"5 2\n{coin} {word}")) for coin in range(5)], expected)

    def test_other_fields(self):
        for call in (judge, is_let_by):
            self.error(OtherField, call, CLAIM, Journal(7, 3, []))
            self.error(OtherField, call, CLAIM, Journal(2, 0, []))
            self.error(OtherField, call, LOOK_AT_ONCE, Journal(7, 3, []))

    def test_things_are_defined_in_their_places(self):
        for name in ("__init__", "take", "finish"):
            self.assertIn(name, vars(Asker))
        for thing in (Asker, judge, is_let_by):
            self.same(thing.__module__, "sumtalk.judging")
            self.assertIs(getattr(judging, thing.__name__), thing)


class Asking(Case):
    def state(self, asker):
        return (asker.prime, asker.due, asker.taken, asker.coins, asker.verdict)

    def test_rounds_that_fit(self):
        (first, _), (second, _) = honest_rounds(FORM, [2, 3])
        asker = Asker(claim=CLAIM)
        self.assertLessEqual({"prime", "due", "taken", "coins", "verdict"}, set(vars(asker)))
        self.same(self.state(asker), (5, 3, 0, (), None))
        self.same(asker.finish(), (1, "short"))
        self.same(asker.take(first, 2), True)
        self.same(self.state(asker), (5, first.at(2), 1, (2,), None))
        self.same(asker.finish(), (2, "short"))
        self.same(asker.take(poly=second, coin=3), True)
        self.same(self.state(asker), (5, FORM.at([2, 3]), 2, (2, 3), None))
        self.same(asker.finish(), (None, "let by"))
        # To finish changes nothing, and a round too many may still come.
        self.same(self.state(asker), (5, FORM.at([2, 3]), 2, (2, 3), None))
        self.same(asker.take(ZERO, 0), False)
        self.same(self.state(asker), (5, FORM.at([2, 3]), 2, (2, 3), (3, "long")))
        self.same(asker.finish(), (3, "long"))

    def test_broken_rounds(self):
        (first, _), (second, _) = honest_rounds(FORM, [2, 3])
        high = Poly(5, [0] * 5 + [1])
        for wrong, why in ((high, "degree"), (ZERO, "sum")):
            asker = Asker(CLAIM)
            self.same(asker.take(wrong, 2), False)
            self.same(self.state(asker), (5, 3, 0, (), (1, why)))
            asker = Asker(CLAIM)
            asker.take(first, 2)
            self.same(asker.take(wrong, 4), False)
            broken = (5, first.at(2), 1, (2,), (2, why))
            self.same(self.state(asker), broken)
            # The first verdict stays, whatever comes behind it.
            for poly in (second, high, ZERO, second):
                self.same(asker.take(poly, 3), False)
                self.same(self.state(asker), broken)
            self.same(asker.finish(), (2, why))

    def test_the_look_is_no_verdict_yet(self):
        claim = Claim(Form(5, 1, [((1,), 1)]), total=2)
        asker = Asker(claim)
        asker.take(Poly(5, [0, 2]), 3)
        self.same(asker.finish(), (2, "look"))
        self.same(self.state(asker), (5, 1, 1, (3,), None))
        self.same(asker.take(Poly(5, [1]), 3), False)
        self.same(asker.finish(), (2, "long"))

    def test_no_places(self):
        asker = Asker(LOOK_AT_ONCE)
        self.same(self.state(asker), (5, 3, 0, (), None))
        self.same(asker.finish(), (None, "let by"))
        self.same(Asker(LOOK_AT_ONCE.with_total(0)).finish(), (1, "look"))
        self.same(asker.take(ZERO, 0), False)
        self.same(self.state(asker), (5, 3, 0, (), (1, "long")))

    def test_as_judging_does(self):
        for prime in (2, 5):
            for places in range(4):
                for form in some_forms(prime, places):
                    for claim in (Claim(form), Claim(form, total=0)):
                        for journal in many_journals(claim):
                            asker = Asker(claim)
                            fitted = [asker.take(poly, coin) for poly, coin in journal.rounds]
                            with_total = Journal(prime, claim.total, journal.rounds)
                            self.same(asker.finish(), plain_verdict(claim, with_total))
                            self.same(fitted, [k < asker.taken for k in range(len(fitted))])
                            self.same(asker.coins, journal.coins[:asker.taken])
                            self.same(asker.due, with_total.owed()[asker.taken])

    def test_wrong_arguments(self):
        broken = Asker(CLAIM)
        broken.take(ZERO, 0)
        behind = Asker(LOOK_AT_ONCE)
        first = honest_rounds(FORM, [2, 3])[0][0]
        # Arguments are checked always, also where no round is looked at any more.
        for asker in (Asker(CLAIM), broken, behind):
            ahead = self.state(asker)
            self.error(OtherField, asker.take, FOREIGN, 0)
            self.error(OtherField, asker.take, FOREIGN, "wrong")
            self.same(self.error(NotInField, asker.take, first, 5).value, 5)
            self.same(self.state(asker), ahead)
        self.no_number(5, lambda coin: Asker(CLAIM).take(first, coin))
        self.no_number(5, lambda coin: broken.take(first, coin))
