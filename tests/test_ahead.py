"""Points [81] to [85] and the entry sumtalk/ahead.py."""

import itertools

from sumtalk import ahead
from sumtalk.ahead import Rule, all_ahead, judge_ahead, talk_ahead, told_coin
from sumtalk.claims import Claim
from sumtalk.errors import DivisionByZero, NotInField, OtherField, TooLarge, WrongPlaces
from sumtalk.forms import Form
from sumtalk.journals import Journal
from sumtalk.judging import judge
from sumtalk.liars import Liar, best_paper
from sumtalk.points import all_polys
from sumtalk.polys import Poly
from sumtalk.tellers import Changed, Honest, Teller, Told
from helper import Alien, Case, all_points, plain_sum, some_forms

FORM = Form(5, 2, [((0, 1), 3), ((2, 0), 1)])
CLAIM = Claim(FORM)
NONE = Claim(Form(5, 0, [((), 3)]))
RULE = Rule(5, 2, 3)
SEVENTH = Rule(7, 2, 3)
FOREIGN = Poly(7, [1])
HIGH = Poly(5, [0] * 12 + [1])


def refuse(row):
    raise DivisionByZero()


def plain_coin(rule, numbers):
    state = rule.first
    for number in numbers:
        state = (state * state + rule.factor * state + number) % rule.prime
    return state


def plain_row(claim, polys):
    """The row for which the coin of the last round is told."""
    row = [claim.total]
    for poly, degree in zip(polys, claim.degrees):
        row += list(poly.coefficients) + [0] * (degree + 1 - len(poly.coefficients))
    return row


def with_told_coins(claim, rule, polys):
    """The journal with these hand-ins and their told coins."""
    coins = [plain_coin(rule, plain_row(claim, polys[:at + 1])) for at in range(len(polys))]
    return Journal(claim.prime, claim.total, list(zip(polys, coins)))


def plain_judge(claim, rule, journal):
    """The verdict, step by step as the document tells."""
    n = claim.places
    if journal.total != claim.total:
        return (0, "total")
    owed = journal.owed()
    for k, (poly, coin) in enumerate(journal.rounds, 1):
        if k > n:
            return (n + 1, "long")
        if poly.degree > claim.degrees[k - 1]:
            return (k, "degree")
        if (poly.at(0) + poly.at(1)) % claim.prime != owed[k - 1]:
            return (k, "sum")
        if coin != plain_coin(rule, plain_row(claim, journal.polys[:k])):
            return (k, "coin")
    if journal.length < n:
        return (journal.length + 1, "short")
    if owed[-1] != claim.form.at(journal.coins):
        return (n + 1, "look")
    return (None, "let by")


def some_claims(prime, places):
    """Claims, some of them with told degrees above those of the form."""
    for form in some_forms(prime, places):
        for more in (0, 1):
            for total in {plain_sum(form), (plain_sum(form) + 1) % prime}:
                yield Claim(form, degrees=[degree + more for degree in form.degrees], total=total)


class Rules(Case):
    def test_attributes(self):
        rule = Rule(prime=5, first=2, factor=3)
        self.same((rule.prime, rule.first, rule.factor), (5, 2, 3))
        self.assertLessEqual({"prime", "first", "factor"}, set(vars(rule)))

    def test_coins(self):
        for prime in (2, 3, 101):
            for first, factor in itertools.product({0, 1, prime - 1}, repeat=2):
                rule = Rule(prime, first, factor)
                for many in (0, 1, 2, 7):
                    numbers = [(3 * at + first + 1) % prime for at in range(many)]
                    self.same(self.keeps(rule, numbers), plain_coin(rule, numbers))
        self.same(RULE([]), 2)
        self.same(RULE(()), 2)
        self.same(RULE(numbers=[1]), (4 + 6 + 1) % 5)
        # With the factor 0 only squares are left.
        self.same([Rule(7, 3, 0)([4]), Rule(7, 3, 0)([4, 1]), Rule(7, 3, 1)([4])], [6, 2, 2])

    def test_number_of_numbers(self):
        numbers = [at % 5 for at in range(1024)]
        self.same(RULE(numbers), plain_coin(RULE, numbers))
        self.error(TooLarge, RULE, numbers + [0])
        self.error(TooLarge, RULE, ["wrong"] * 1025)

    def test_wrong_arguments(self):
        self.no_prime(lambda prime: Rule(prime, 200, 200))
        self.no_number(5, lambda first: Rule(5, first, 4))
        self.no_number(5, lambda factor: Rule(5, 4, factor))
        self.same(self.error(NotInField, Rule, 5, 9, 8).value, 9)
        self.no_number(5, lambda number: RULE([1, number]))
        self.same(self.error(NotInField, RULE, [9, 8]).value, 9)

    def test_equality(self):
        self.same(RULE == Rule(5, 2, 3), True)
        for other in (Rule(5, 3, 3), Rule(5, 2, 2), SEVENTH, None, 2, (5, 2, 3)):
            self.same(RULE == other, False)
            self.same(other == RULE, False)

    def test_things_are_defined_in_their_places(self):
        for name in ("__init__", "__call__", "__eq__"):
            self.assertIn(name, vars(Rule))
        for thing in (Rule, all_ahead, judge_ahead, talk_ahead, told_coin):
            self.same(thing.__module__, "sumtalk.ahead")
            self.assertIs(getattr(ahead, thing.__name__), thing)


class ToldCoins(Case):
    def test_told_coins(self):
        for prime in (2, 5, 101):
            rule = Rule(prime, 1, prime - 1)
            for claim in some_claims(prime, 3):
                for many in (1, 2, 3):
                    for shift in range(3):
                        polys = [Poly(prime, [(at + shift) % prime, 1][:shift]) for at in range(many)]
                        found = self.keeps(lambda row: told_coin(claim, rule, row), polys)
                        self.same(found, plain_coin(rule, plain_row(claim, polys)))

    def test_fewer_and_more_coefficients_than_the_told_degree(self):
        claim = Claim(Form(5, 2, []), degrees=[2, 0], total=4)
        for first, second, row in (([], [], [4, 0, 0, 0, 0]), ([1], [2], [4, 1, 0, 0, 2]),
                                   ([1, 2, 3], [], [4, 1, 2, 3, 0]), ([1, 2, 3, 4], [0, 1], [4, 1, 2, 3, 4, 0, 1]),
                                   ([0, 0, 0, 0, 0, 1], [3], [4, 0, 0, 0, 0, 0, 1, 3])):
            polys = [Poly(5, first), Poly(5, second)]
            self.same(told_coin(claim=claim, rule=RULE, polys=polys), RULE(row))
            self.same(told_coin(claim, RULE, polys[:1]), RULE(row[:max(3, len(first)) + 1]))
        longest = Claim(Form(5, 5, []), degrees=[1] * 5, total=4)
        polys = [Poly(5, [1] * 128)] * 5
        self.same(told_coin(longest, RULE, polys), RULE([4] + [1] * 640))

    def test_wrong_arguments(self):
        self.error(OtherField, told_coin, CLAIM, SEVENTH, [])
        for polys in ([], [FOREIGN] * 3, ["wrong"] * 9):
            self.error(WrongPlaces, told_coin, CLAIM, RULE, polys)
        for polys in ([], [HIGH]):
            self.error(WrongPlaces, told_coin, NONE, RULE, polys)
        self.error(OtherField, told_coin, CLAIM, RULE, [HIGH, FOREIGN])
        self.error(OtherField, told_coin, CLAIM, RULE, (FOREIGN,))


class Judging(Case):
    def near_journals(self, claim, rule):
        prime = claim.prime
        for claimed in (claim.total, (claim.total + 1) % prime):
            polys = []
            owed = claimed
            for at, degree in enumerate(claim.degrees):
                poly = Honest(claim).hand([rule([])] * at)
                # The unit X repairs the ends.
                polys.append(poly + Poly(prime, [0, (owed - poly.ends()) % prime]))
                owed = polys[-1].at(plain_coin(rule, plain_row(claim, polys)))
            good = with_told_coins(claim, rule, polys)
            yield good
            yield Journal(prime, claimed, good.rounds)
            for at in range(good.length):
                poly, coin = good.rounds[at]
                yield good.cut(at)
                yield good.replaced(at + 1, poly, coin=(coin + 1) % prime)
                for change in (Poly(prime, [1]), Poly(prime, [0, 1]), Poly(prime, [0] * 6 + [1])):
                    yield good.replaced(at + 1, poly + change)
                    yield with_told_coins(claim, rule, list(good.polys[:at]) + [poly + change]
                                          + list(good.polys[at + 1:]))
            yield good.extended(Poly(prime, []), 0)

    def test_verdicts(self):
        met = set()
        for prime in (2, 3, 101):
            rules = [Rule(prime, 0, 0), Rule(prime, 1, prime - 1)]
            for places in range(4):
                for claim in some_claims(prime, places):
                    for rule in rules:
                        for journal in self.near_journals(claim, rule):
                            verdict = judge_ahead(claim=claim, rule=rule, journal=journal)
                            self.same(verdict, plain_judge(claim, rule, journal))
                            met.add(verdict[1])
        self.same(met, {"total", "long", "degree", "sum", "coin", "short", "look", "let by"})

    def test_a_broken_coin_behind_a_broken_sum(self):
        good = talk_ahead(CLAIM, Honest(CLAIM), RULE)
        self.same(judge_ahead(CLAIM, RULE, good), (None, "let by"))
        poly, coin = good.rounds[0]
        other = (coin + 1) % 5
        for wrong, verdict in ((good.replaced(1, poly, coin=other), (1, "coin")),
                               (good.replaced(1, poly + Poly(5, [1]), coin=other), (1, "sum")),
                               (good.replaced(1, poly + HIGH, coin=other), (1, "degree")),
                               (good.replaced(2, Poly(5, [1])).replaced(1, poly, coin=other), (1, "coin")),
                               (good.cut(1).replaced(1, poly, coin=other), (1, "coin")),
                               (good.cut(1), (2, "short")),
                               (good.extended(HIGH, 0), (3, "long")),
                               (Journal(5, 0, good.replaced(1, HIGH, coin=other).rounds), (0, "total"))):
            self.same(judge_ahead(CLAIM, RULE, wrong), verdict)

    def test_claims_without_places(self):
        self.same(judge_ahead(NONE, RULE, Journal(5, 3, [])), (None, "let by"))
        self.same(judge_ahead(NONE.with_total(1), RULE, Journal(5, 1, [])), (1, "look"))
        self.same(judge_ahead(NONE, RULE, Journal(5, 3, [(HIGH, 0)])), (1, "long"))
        self.same(judge_ahead(NONE, RULE, Journal(5, 1, [])), (0, "total"))

    def test_wrong_arguments(self):
        self.error(OtherField, judge_ahead, CLAIM, SEVENTH, Journal(5, 0, []))
        self.error(OtherField, judge_ahead, CLAIM, RULE, Journal(7, 0, []))


class Talks(Case):
    def test_talks(self):
        for prime in (2, 5, 101):
            for rule in (Rule(prime, 0, 0), Rule(prime, 1, prime - 1)):
                for places in range(4):
                    for claim in some_claims(prime, places):
                        for teller in (Honest(claim), Liar(claim, best_paper(claim)), Teller(prime),
                                       Changed(Honest(claim), 2, Poly(prime, [1])),
                                       Changed(Honest(claim), 1, Poly(prime, [0] * 6 + [1]))):
                            alien = Alien(lambda row: teller.hand(list(row)))
                            journal = talk_ahead(claim=claim, teller=alien, rule=rule)
                            self.assertEqual(journal, with_told_coins(claim, rule, list(journal.polys)))
                            self.same(alien.asked, [journal.coins[:at] for at in range(journal.length)])
                            at, why = judge_ahead(claim, rule, journal)
                            if why in ("degree", "sum"):
                                self.same(journal.length, at)
                            else:
                                self.same(journal.length, places)
                                self.same(judge(claim, journal), (at, why))

    def test_honest_talks_are_let_by(self):
        for prime in (2, 5, 101):
            for form in some_forms(prime, 3):
                for first, factor in itertools.product((0, 1), repeat=2):
                    rule = Rule(prime, first, factor)
                    journal = talk_ahead(Claim(form), Honest(Claim(form)), rule)
                    self.same(judge_ahead(Claim(form), rule, journal), (None, "let by"))

    def test_hand_ins_over_another_prime(self):
        for at in (0, 1):
            alien = Alien(lambda row: FOREIGN if len(row) == at else Honest(CLAIM).hand(list(row)))
            self.error(OtherField, talk_ahead, CLAIM, alien, RULE)
            self.same(len(alien.asked), at + 1)
        # Also where it would be too long a row for its coin.
        self.error(OtherField, talk_ahead, CLAIM, Told(7, [Poly(7, [6] * 128)]), RULE)

    def test_wrong_rules_and_errors_of_tellers(self):
        alien = Alien(refuse)
        self.error(OtherField, talk_ahead, CLAIM, alien, SEVENTH)
        self.same(alien.asked, [])
        self.error(DivisionByZero, talk_ahead, CLAIM, alien, RULE)
        self.same(talk_ahead(NONE, alien, RULE).text(), "5 3")
        self.same(alien.asked, [()])


class All(Case):
    def plain_all(self, claim, rule):
        rows = [all_polys(claim.prime, degree) for degree in claim.degrees]
        journals = [with_told_coins(claim, rule, list(polys)) for polys in itertools.product(*rows)]
        return [journal for journal in journals if plain_judge(claim, rule, journal) == (None, "let by")]

    def test_all_let_by_journals(self):
        found = 0
        for prime, degrees in ((2, (1,)), (2, (0, 1)), (2, (1, 1, 1)), (2, (3, 2)), (2, (0,) * 5), (3, (2, 1)),
                               (3, (0, 1, 0)), (5, (1, 1)), (5, (2,)), (7, (0, 1)), (31, (1,)), (101, (0,))):
            for number, first, factor in itertools.product((0, 1), repeat=3):
                form = Form(prime, len(degrees), [(degrees, number), ((0,) * len(degrees), 1)])
                rule = Rule(prime, first, factor)
                for total in range(min(prime, 5)):
                    claim = Claim(form, degrees=degrees, total=total)
                    journals = all_ahead(claim, rule)
                    self.assertEqual(journals, self.plain_all(claim, rule))
                    found += len(journals) if not claim.is_true() else 0
                    rows = [sum([poly.padded(degree + 1) for poly, degree in zip(journal.polys, degrees)], [])
                            for journal in journals]
                    self.same(rows, sorted(rows))
                    if claim.is_true():
                        self.assertIn(talk_ahead(claim, Honest(claim), rule), journals)
        self.assertGreater(found, 50)

    def test_claims_without_places(self):
        self.same([journal.text() for journal in all_ahead(claim=NONE, rule=RULE)], ["5 3"])
        self.same(all_ahead(NONE.with_total(1), RULE), [])
        all_ahead(NONE, RULE).append("changed")
        self.same(len(all_ahead(NONE, RULE)), 1)

    def test_bound(self):
        # p to the power of the sum of all d + 1, just below 1,024, 1,024 itself, and above.
        for prime, degrees in ((31, (1,)), (2, (9,)), (2, (4, 4)), (2, (1,) * 5), (3, (5,)), (5, (3,)), (7, (2,)),
                               (101, (0,)), (31, (0, 0))):
            self.assertLessEqual(prime ** sum(degree + 1 for degree in degrees), 1024)
            claim = Claim(Form(prime, len(degrees), []), degrees=degrees)
            self.assertGreater(len(all_ahead(claim, Rule(prime, 1, 0))), 0)
        for prime, degrees in ((37, (1,)), (2, (10,)), (2, (4, 5)), (2, (1, 1, 1, 1, 2)), (3, (6,)), (5, (4,)),
                               (101, (0, 0)), (7, (3,)), (101, (12,) * 5)):
            claim = Claim(Form(prime, len(degrees), []), degrees=degrees)
            self.error(TooLarge, all_ahead, claim, Rule(prime, 1, 0))
            self.error(OtherField, all_ahead, claim, Rule(13, 1, 0))

    def test_wrong_rule(self):
        self.error(OtherField, all_ahead, CLAIM, SEVENTH)
        self.error(OtherField, all_ahead, NONE, SEVENTH)

    def test_a_teller_that_looks_ahead_finds_false_journals(self):
        claim = Claim(Form(5, 1, [((1,), 1)]), total=3)
        for row in all_points(5, 2):
            rule = Rule(5, *row)
            for journal in all_ahead(claim, rule):
                self.same(judge(claim, journal), (None, "let by"))
                self.assertFalse(journal.polys[0] == Poly(5, [0, 1]))
                self.same(judge_ahead(claim, rule, talk_ahead(claim, Told(5, journal.polys), rule)), (None, "let by"))
