"""Point [52] and the entry sumtalk/sides.py."""

import itertools
from fractions import Fraction

from sumtalk import sides
from sumtalk.claims import Claim
from sumtalk.counts import liar_share
from sumtalk.errors import DivisionByZero, NotInField, OtherField, TooLarge, WrongPlaces
from sumtalk.forms import Form
from sumtalk.journals import Journal
from sumtalk.judging import is_let_by, judge
from sumtalk.liars import Liar, best_paper
from sumtalk.points import all_polys
from sumtalk.polys import Poly
from sumtalk.shares import Share, product_of
from sumtalk.sides import SideTeller, side_let_by, side_schedule, side_share, side_share_of, side_talk
from sumtalk.tellers import Changed, Counted, Honest, Rows, Teller, Told, talk
from helper import Alien, Case, all_points, some_forms

FORM = Form(5, 2, [((0, 1), 3), ((2, 0), 1)])
NONE = Claim(Form(5, 0, [((), 3)]))
ONE = Claim(Form(5, 1, [((1,), 2)]))
TWO = Claim(FORM)
THREE = Claim(Form(5, 3, [((1, 0, 2), 1), ((0, 1, 0), 4)]))
SEVENTH = Claim(Form(7, 1, []))
ROWS_OF_CLAIMS = ([], [NONE], [ONE], [THREE], [NONE, NONE], [ONE, TWO], [TWO, ONE], [NONE, TWO, ONE],
                  [TWO, NONE, THREE], [ONE, ONE, ONE, ONE], [NONE, THREE, ONE, TWO], [THREE, THREE, THREE, THREE])
HIGH = Poly(5, [0] * 12 + [1])
FOREIGN = Poly(7, [1])


def plain_schedule(claims):
    pairs = [(index, k) for index, claim in enumerate(claims) for k in range(1, claim.places + 1)]
    return sorted(pairs, key=lambda pair: (pair[1], pair[0]))


def some_coins(claims):
    """Flat rows of coins for the claims."""
    many = len(plain_schedule(claims))
    return [tuple((3 * at + shift) % 5 for at in range(many)) for shift in range(3)]


def own_coins(claims, index, coins):
    """The coins of one claim's talk."""
    return [coin for coin, (other, _) in zip(coins, plain_schedule(claims)) if other == index]


def refuse(row):
    raise DivisionByZero()


class Schedules(Case):
    def test_schedule(self):
        for claims in ROWS_OF_CLAIMS:
            self.same(self.keeps(side_schedule, claims), plain_schedule(claims))
        self.same(side_schedule(claims=[NONE, THREE, ONE, TWO]), [(1, 1), (2, 1), (3, 1), (1, 2), (3, 2), (1, 3)])
        self.new_list(side_schedule, [ONE])

    def test_wrong_claims(self):
        calls = (side_schedule, lambda claims: SideTeller(claims, "wrong"),
                 lambda claims: side_talk(claims, None, [9] * 99),
                 lambda claims: side_let_by(claims, ["wrong"] * 99), side_share,
                 lambda claims: side_share_of(claims, Alien(refuse)))
        for call in calls:
            self.error(TooLarge, call, [ONE] * 5)
            self.error(TooLarge, call, [ONE] + [SEVENTH] * 4)
            self.error(OtherField, call, [ONE, SEVENTH])
            self.error(OtherField, call, (ONE, ONE, ONE, SEVENTH))
            self.error(OtherField, call, [SEVENTH, NONE])

    def test_things_are_defined_in_their_places(self):
        for name in ("__init__", "hand"):
            self.assertIn(name, vars(SideTeller))
        for thing in (SideTeller, side_let_by, side_schedule, side_share, side_share_of, side_talk):
            self.same(thing.__module__, "sumtalk.sides")
            self.assertIs(getattr(sides, thing.__name__), thing)


class SideTellers(Case):
    def test_each_claim_is_told_by_its_teller(self):
        for claims in ROWS_OF_CLAIMS[1:]:
            aliens = [Alien(lambda row, at=at: Poly(5, [*row, at + 1])) for at in range(len(claims))]
            teller = SideTeller(claims=claims, tellers=tuple(aliens))
            self.assertIsInstance(teller, Teller)
            self.same(vars(teller)["prime"], 5)
            for coins in some_coins(claims):
                for many, (index, k) in enumerate(plain_schedule(claims)):
                    row = own_coins(claims, index, coins[:many])
                    self.same(len(row), k - 1)
                    ahead = len(aliens[index].asked)
                    calls = sum(len(alien.asked) for alien in aliens)
                    hand_in = self.keeps(teller.hand, list(coins[:many]))
                    self.same(hand_in.coefficients, (*row, index + 1))
                    # Its own teller alone is asked; the two calls are those of a list and of a tuple.
                    self.same(aliens[index].asked[ahead:], [tuple(row)] * 2)
                    self.same(sum(len(alien.asked) for alien in aliens), calls + 2)

    def test_too_many_coins(self):
        aliens = [Alien(refuse), Alien(refuse)]
        teller = SideTeller([ONE, TWO], aliens)
        for coins in ([0] * 3, [0] * 4, [1] * 30):
            self.error(WrongPlaces, teller.hand, coins)
        self.error(WrongPlaces, SideTeller([NONE], [Teller(5)]).hand, [])
        self.same([alien.asked for alien in aliens], [[], []])

    def test_number_of_tellers(self):
        self.error(WrongPlaces, SideTeller, [], [])
        self.error(WrongPlaces, SideTeller, (), [Teller(5)])
        for tellers in ([], [Teller(5)], [Teller(5)] * 3, [Teller(5)] * 9):
            self.error(WrongPlaces, SideTeller, [ONE, TWO], tellers)

    def test_a_row_that_is_changed_behind_the_call(self):
        claims, tellers = [ONE, TWO], [Honest(ONE), Honest(TWO)]
        teller = SideTeller(claims, tellers)
        claims[0] = THREE
        claims.append(ONE)
        tellers[0] = Teller(5)
        self.same(teller.hand([]).coefficients, Honest(ONE).hand([]).coefficients)
        self.same(teller.hand([0]).coefficients, Honest(TWO).hand([]).coefficients)
        self.error(WrongPlaces, teller.hand, [0] * 3)

    def test_primes_of_the_tellers_are_not_looked_at(self):
        teller = SideTeller([ONE, TWO], [Honest(ONE), Told(7, [FOREIGN])])
        self.same((teller.prime, teller.hand([0]).prime), (5, 7))
        self.error(OtherField, side_talk, [ONE, TWO], teller, [0, 0, 0])


class SideTalks(Case):
    def tellers_of(self, claims):
        """Tellers, some of which break a round."""
        yield [Honest(claim) for claim in claims]
        yield [Liar(claim, best_paper(claim)) for claim in claims]
        for at, poly in itertools.product((1, 2, 3), (HIGH, Poly(5, [1]))):
            yield [Changed(Honest(claim), at, poly) for claim in claims]
            yield [Changed(Honest(claim), (at + index) % 3 + 1, poly) for index, claim in enumerate(claims)]

    def test_each_journal_is_that_of_its_own_talk(self):
        for claims in ROWS_OF_CLAIMS[1:]:
            for shift in (0, 1):
                told = [claim.with_total((claim.total + shift) % 5) for claim in claims]
                for tellers in self.tellers_of(told):
                    teller = SideTeller(told, tellers)
                    for coins in some_coins(told):
                        journals = self.keeps(lambda row: side_talk(told, teller, row), list(coins))
                        expected = [talk(claim, inner, own_coins(told, index, coins))
                                    for index, (claim, inner) in enumerate(zip(told, tellers))]
                        self.assertEqual(journals, expected)
                        let_by = all(is_let_by(claim, journal) for claim, journal in zip(told, journals))
                        self.same(side_let_by(claims=told, journals=journals), let_by)
                        self.same(side_let_by(tuple(told), tuple(journals)), let_by)

    def test_all_pairs_are_played(self):
        # Every round is broken, and still each pair has its call, with all coins so far.
        for claims in ROWS_OF_CLAIMS:
            for coins in some_coins(claims):
                alien = Alien(lambda row: HIGH)
                journals = side_talk(claims=claims, teller=alien, coins=coins)
                self.same(alien.asked, [coins[:at] for at in range(len(coins))])
                self.same([journal.length for journal in journals], [min(1, claim.places) for claim in claims])
                self.same([journal.total for journal in journals], [claim.total for claim in claims])

    def test_a_side_teller_may_look_at_the_coins_of_other_talks(self):
        false = Claim(Form(5, 1, []), degrees=[1], total=1)
        alien = Alien(lambda row: Poly(5, [row[0], (1 - 2 * row[0]) % 5]) if row else Poly(5, [0, 1]))
        journals = side_talk([false, false], alien, [3, 4])
        self.same([journal.text() for journal in journals], ["5 1\n3 0.1", "5 1\n4 3"])

    def test_no_claims(self):
        alien = Alien(refuse)
        self.same(side_talk([], alien, []), [])
        self.same(side_talk((), alien, ()), [])
        for coins in ([0], [0, 0], ["wrong"]):
            self.error(WrongPlaces, side_talk, [], alien, coins)
        self.same(side_let_by([], []), True)
        self.error(WrongPlaces, side_let_by, [], [Journal(5, 0, [])])
        self.same(side_share([]).text(), "1/1")
        self.same(side_share_of([], alien).text(), "1/1")
        self.same(alien.asked, [])
        side_talk([], alien, []).append("changed")
        self.same(side_talk([], alien, []), [])

    def test_claims_without_places(self):
        alien = Alien(refuse)
        journals = side_talk([NONE, NONE.with_total(4)], alien, [])
        self.same([journal.text() for journal in journals], ["5 3", "5 4"])
        self.same(side_let_by([NONE, NONE.with_total(4)], journals), False)
        self.same(side_let_by([NONE, NONE], [journals[0]] * 2), True)
        self.same(side_share_of([NONE], alien).text(), "1/1")
        self.same(side_share_of([NONE, NONE.with_total(4)], alien).text(), "0/1")
        self.same(alien.asked, [])

    def test_wrong_coins(self):
        alien = Alien(refuse)
        for coins in ([], [0] * 2, [0] * 4, ["wrong"] * 4):
            self.error(WrongPlaces, side_talk, [ONE, TWO], alien, coins)
        self.no_number(5, lambda coin: side_talk([ONE, TWO], Teller(5), [0, 0, coin]))
        self.same(self.error(NotInField, side_talk, [ONE, TWO], alien, [8, 0, 9]).value, 8)
        self.same(self.error(NotInField, side_talk, [ONE], alien, [9]).value, 9)
        self.same(alien.asked, [])

    def test_hand_ins_over_another_prime(self):
        for at in range(3):
            # A broken round ahead of it changes nothing.
            alien = Alien(lambda row: FOREIGN if len(row) == at else HIGH)
            self.error(OtherField, side_talk, [ONE, TWO], alien, [1, 2, 3])
            self.same(alien.asked, [(1, 2, 3)[:many] for many in range(at + 1)])
            alien = Alien(lambda row: FOREIGN if len(row) == at else HIGH)
            self.error(OtherField, side_share_of, [ONE, TWO], alien)

    def test_an_error_of_the_teller_comes_out(self):
        counted = Counted(SideTeller([TWO, ONE], [Changed(Honest(TWO), 2, Poly(5, [])), Honest(ONE)]))
        side_talk([TWO, ONE], counted, [1, 2, 3])
        self.same(counted.calls, 3)
        self.error(DivisionByZero, side_talk, [ONE], Alien(refuse), [0])
        # Also behind a broken round.
        self.error(DivisionByZero, side_talk, [TWO], Alien(lambda row: refuse(row) if row else HIGH), [0, 0])

    def test_side_let_by(self):
        good = [talk(claim, Honest(claim), [1] * claim.places) for claim in (ONE, TWO, THREE)]
        claims = [ONE, TWO, THREE]
        self.same(side_let_by(claims, good), True)
        for index in range(3):
            journals = list(good)
            journals[index] = good[index].cut(0)
            self.same(judge(claims[index], journals[index])[1], "short")
            self.same(side_let_by(claims, journals), False)
        self.same(side_let_by([TWO, ONE, THREE], good), False)

    def test_wrong_journals(self):
        good = [talk(claim, Honest(claim), [1] * claim.places) for claim in (ONE, TWO)]
        foreign = Journal(7, 0, [])
        for journals in ([], good[:1], good + good, ["wrong"], [foreign] * 3):
            self.error(WrongPlaces, side_let_by, [ONE, TWO], journals)
        self.error(OtherField, side_let_by, [ONE, TWO], [good[0], foreign])
        # All journals are checked ahead of any verdict.
        self.error(OtherField, side_let_by, [ONE, TWO], [good[0].cut(0), foreign])


class SideShares(Case):
    def test_side_share(self):
        for prime in (2, 5, 101):
            claims = [Claim(form, degrees=[3, 5]) for form in some_forms(prime, 2)]
            false = [claim.with_total((claim.total + 1) % prime) for claim in claims]
            for row in ([], claims, false, claims[:1] + false[:3], false[:1], [false[0], false[0]]):
                share = self.keeps(side_share, row)
                self.assertIsInstance(share, Share)
                self.assertEqual(share, product_of([liar_share(claim) for claim in row]))
        self.same(side_share(claims=[Claim(FORM, total=0), Claim(Form(5, 1, [((1,), 1)]), total=0)]).text(), "13/125")

    def test_best_liars_reach_the_side_share(self):
        for prime, degrees in ((2, [(1, 1), (1, 0), (2,)]), (2, [(3,), (), (1, 1, 1), (1,)]), (3, [(1,), (2, 1)]),
                               (5, [(3,), (1,)]), (7, [(2,)]), (31, [(2,), (3,)])):
            claims = [Claim(Form(prime, len(row), []), degrees=row, total=1 if row else 0) for row in degrees]
            teller = SideTeller(claims, [Liar(claim, best_paper(claim)) for claim in claims])
            share = side_share_of(claims=claims, teller=teller)
            self.assertIsInstance(share, Share)
            self.assertEqual(share, side_share(claims))

    def test_no_side_teller_has_a_greater_share(self):
        claims = [Claim(Form(2, 1, []), degrees=[1], total=1)] * 2
        best = Fraction(0)
        polys = all_polys(2, 1)
        for first, second, third in itertools.product(polys, repeat=3):
            rows = Rows(2, [([], first.coefficients), ([0], second.coefficients), ([1], third.coefficients)])
            share = side_share_of(claims, rows)
            best = max(best, Fraction(share.top, share.bottom))
        self.same((side_share(claims).text(), best), ("1/4", Fraction(1, 4)))

    def test_share_is_counted_over_all_flat_rows(self):
        claims = [Claim(Form(3, 1, [((1,), 1)])), Claim(Form(3, 2, [((1, 2), 1)]))]
        first, second = Honest(claims[0]), Honest(claims[1])
        # It breaks a round of the second talk if a coin of the first one is 2, and one of the first if its own is.
        broken = Changed(second, 2, Poly(3, [1]))
        alien = Alien(lambda row: (first, second, second)[len(row)].hand([]) if len(row) < 2 else
                      (broken if row[0] == 2 else second).hand(list(row[1:])))
        let_by = [coins for coins in all_points(3, 3) if side_let_by(claims, side_talk(claims, alien, coins))]
        self.same(len(let_by), 18)
        share = side_share_of(claims, alien)
        self.same((share.top, share.bottom), (2, 3))

    def test_number_of_flat_rows(self):
        long = Claim(Form(2, 5, []))
        alien = Alien(lambda row: Poly(2, []))
        self.same(side_share_of([long, long], alien).text(), "1/1")
        # Each of the rows that the talks ask for.
        self.same(set(alien.asked), set(row for many in range(10) for row in all_points(2, many)))
        for claims in ([long, long, Claim(Form(2, 1, []))], [Claim(Form(37, 1, []))] * 2, [Claim(Form(5, 5, []))],
                       [Claim(Form(101, 2, []))], [long] * 4):
            alien = Alien(refuse)
            self.error(TooLarge, side_share_of, claims, alien)
            self.same(alien.asked, [])
        self.same(side_share_of([Claim(Form(31, 1, []))] * 2, Teller(31)).text(), "1/1")

    def test_the_first_error_is_raised(self):
        answers = {(0, 1): WrongPlaces, (0, 2): NotInField, (1,): DivisionByZero}
        claims = [Claim(Form(3, 1, [])), Claim(Form(3, 2, []))]

        def answer(row):
            if row in answers:
                raise answers[row](*[None] * (answers[row] is NotInField))
            return Poly(3, [1])

        alien = Alien(answer)
        self.error(WrongPlaces, side_share_of, claims, alien)
        self.same(sorted(set(alien.asked)), [(), (0,), (0, 0), (0, 1)])
