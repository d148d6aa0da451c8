"""Points [33] to [35] and the entry sumtalk/tellers.py."""

import itertools

from sumtalk import tellers
from sumtalk.claims import Claim
from sumtalk.errors import DivisionByZero, NotInField, OtherField, OutOfRange, Repeated, TooLarge, WrongPlaces
from sumtalk.forms import Form
from sumtalk.journals import Journal
from sumtalk.judging import is_let_by, judge
from sumtalk.polys import Poly
from sumtalk.tellers import Changed, Counted, Honest, Rows, Teller, Told, hand_ins, talk
from helper import Alien, Case, HUGE, OTHER_KINDS, all_points, plain_round, some_forms

FORM = Form(5, 3, [((0, 1, 0), 3), ((2, 0, 1), 1), ((1, 1, 1), 2)])
CLAIM = Claim(FORM)
ZERO, ONE, HIGH = Poly(5, []), Poly(5, [1]), Poly(5, [0] * 12 + [1])
FOREIGN = Poly(7, [1])


def raises(row):
    raise DivisionByZero()


class Classes(Case):
    def test_every_teller_is_a_teller(self):
        inner = Honest(CLAIM)
        for teller in (Teller(5), inner, Told(5, []), Rows(5, []), Changed(inner, 1, ZERO), Counted(inner)):
            self.assertIsInstance(teller, Teller)
            self.same(vars(teller)["prime"], 5)
            self.assertIn("hand", vars(type(teller)))
            self.assertIn("__init__", vars(type(teller)))

    def test_things_are_defined_in_their_places(self):
        for thing in (Teller, Honest, Told, Rows, Changed, Counted, talk, hand_ins):
            self.same(thing.__module__, "sumtalk.tellers")
            self.assertIs(getattr(tellers, thing.__name__), thing)


class Tellers(Case):
    def test_teller(self):
        for prime in (2, 5, 101):
            teller = Teller(prime=prime)
            for coins in ([], [0], [1] * 40):
                self.same(teller.hand(coins=coins).coefficients, ())
                self.same(teller.hand(coins).prime, prime)
        self.no_prime(Teller)

    def test_honest(self):
        for prime in (2, 5, 101):
            for places in range(4):
                for form in some_forms(prime, places):
                    for total in (None, 0, prime - 1):
                        honest = Honest(claim=Claim(form, total=total))
                        for many in range(places):
                            for coins in all_points(prime, many)[:30]:
                                hand_in = self.keeps(honest.hand, list(coins))
                                self.same(hand_in.coefficients, plain_round(form, coins))
                                self.same(hand_in.prime, prime)

    def test_honest_with_too_many_coins(self):
        for coins in ([0] * 3, [0] * 4, [1] * 33):
            self.error(WrongPlaces, Honest(CLAIM).hand, coins)
        self.error(WrongPlaces, Honest(Claim(Form(5, 0, []))).hand, [])

    def test_told(self):
        for row in ([ONE, HIGH, ZERO], (ONE, HIGH, ZERO)):
            told = Told(5, row)
            for many, expected in enumerate((ONE, HIGH, ZERO, ZERO, ZERO)):
                for coin in range(5):
                    self.same(told.hand([coin] * many).coefficients, expected.coefficients)
            self.same(told.hand([0] * 50).prime, 5)
        self.same(Told(prime=5, polys=[]).hand([]).coefficients, ())
        self.same(Told(5, [HIGH] * 32).hand([0] * 31).coefficients, HIGH.coefficients)

    def test_told_wrongly(self):
        self.no_prime(lambda prime: Told(prime, [FOREIGN] * 33))
        self.error(TooLarge, Told, 5, [ONE] * 33)
        self.error(TooLarge, Told, 5, ["wrong"] * 33)
        self.error(OtherField, Told, 5, [ONE, FOREIGN])

    def test_told_is_changed_behind_the_call(self):
        row = [ONE]
        told = Told(5, row)
        row[0] = HIGH
        row.append(HIGH)
        self.same(told.hand([]).coefficients, (1,))
        self.same(told.hand([0]).coefficients, ())

    def test_rows(self):
        pairs = [([], [1, 2]), ([0], [3]), ([4, 1], [0, 0, 1, 0]), ([1], []), ([4] * 32, [1] * 128)]
        for rows in (pairs, tuple((tuple(coins), tuple(row)) for coins, row in pairs), [list(pair) for pair in pairs]):
            teller = Rows(prime=5, rows=rows)
            for coins, expected in (([], (1, 2)), ([0], (3,)), ([4, 1], (0, 0, 1)), ([1], ()), ([4] * 32, (1,) * 128),
                                    ([2], ()), ([4], ()), ([1, 4], ()), ([4, 1, 0], ()), ([4] * 31, ()),
                                    ([4] * 33, ())):
                hand_in = self.keeps(teller.hand, coins)
                self.same((hand_in.prime, hand_in.coefficients), (5, expected))
        self.same(Rows(5, []).hand([]).coefficients, ())

    def test_rows_are_changed_behind_the_call(self):
        coins, coefficients = [0], [3]
        pair = [coins, coefficients]
        rows = [pair]
        teller = Rows(5, rows)
        self.same(rows, [[[0], [3]]])
        coins[0], coefficients[0], pair[1] = 1, 4, [2]
        rows.append(([1], [1]))
        self.same(teller.hand([0]).coefficients, (3,))
        self.same(teller.hand([1]).coefficients, ())

    def test_number_of_rows(self):
        pairs = [(coins, [coins[0]]) for coins in all_points(101, 2)[:1024]]
        self.same(Rows(101, pairs).hand([10, 13]).coefficients, (10,))
        self.error(TooLarge, Rows, 101, [*pairs, ([], [])])
        self.error(TooLarge, Rows, 101, [("wrong", "wrong")] * 1025)
        self.error(TooLarge, Rows, 5, [([], []), ([0] * 33, [])])
        self.error(TooLarge, Rows, 5, [([], []), ([9] * 33, [])])
        self.error(TooLarge, Rows, 5, [([], []), ([0], [0] * 129)])
        self.error(TooLarge, Rows, 5, [([], [9] * 129)])

    def test_wrong_rows(self):
        self.no_prime(lambda prime: Rows(prime, [([0] * 33, [])] * 1025))
        self.no_number(5, lambda coin: Rows(5, [([], []), ([0, coin], [1])]))
        self.no_number(5, lambda number: Rows(5, [([], []), ([0], [1, number])]))
        # Each pair completely ahead of the next one, its coins ahead of its coefficients.
        self.same(self.error(NotInField, Rows, 5, [([9], [8]), ([0] * 33, [])]).value, 9)
        self.same(self.error(NotInField, Rows, 5, [([9], [0] * 129)]).value, 9)
        self.same(self.error(NotInField, Rows, 5, [([0], [8]), ([9], [])]).value, 8)
        self.error(TooLarge, Rows, 5, [([0], [0] * 129), ([9], [])])

    def test_repeated_rows(self):
        self.error(Repeated, Rows, 5, [([], [1]), ([], [1])])
        self.error(Repeated, Rows, 5, [([1, 2], [1]), ([], []), ((1, 2), [2])])
        self.error(Repeated, Rows, 5, [([0], []), ([0], [0])])
        self.same(self.error(NotInField, Rows, 5, [([], []), ([], []), ([9], [])]).value, 9)
        self.error(TooLarge, Rows, 5, [([], [])] * 1025)

    def test_changed(self):
        inner = Honest(CLAIM)
        for at in (1, 2, 3):
            changed = Changed(inner=inner, at=at, poly=HIGH)
            for coins in ([], [3], [3, 4]):
                expected = inner.hand(coins) + (HIGH if len(coins) == at - 1 else ZERO)
                self.same(self.keeps(changed.hand, coins).coefficients, expected.coefficients)
            self.error(WrongPlaces, changed.hand, [0] * 3)
        self.same(Changed(Teller(5), 32, ONE).hand([0] * 31).coefficients, (1,))
        self.same(Changed(Teller(5), 32, ONE).hand([0] * 32).coefficients, ())

    def test_changed_wrongly(self):
        self.no_range(1, 32, lambda at: Changed(Teller(5), at, ONE))
        for wrong in (0, 33) + HUGE + OTHER_KINDS:
            self.error(OutOfRange, Changed, Teller(5), wrong, FOREIGN)
        self.error(OtherField, Changed, Teller(5), 1, FOREIGN)
        self.error(OtherField, Changed, Teller(7), 1, ONE)

    def test_changed_over_other_primes(self):
        # The inner teller hands in over another prime than its own.
        inner = Alien(lambda row: FOREIGN)
        inner.prime = 5
        changed = Changed(inner, 2, ONE)
        self.same(changed.hand([]).prime, 7)
        self.same(changed.hand([]).coefficients, (1,))
        self.error(OtherField, changed.hand, [0])
        self.same(changed.hand([0, 0]).prime, 7)

    def test_counted(self):
        counted = Counted(inner=Told(5, [ONE, HIGH, ZERO]))
        self.same((counted.calls, counted.numbers_sent), (0, 0))
        for many, sent in ((0, 1), (1, 14), (2, 14), (1, 27), (7, 27)):
            self.assertIsInstance(self.hand_once(counted, [0] * many), Poly)
            self.same(counted.numbers_sent, sent)
        self.same(counted.calls, 5)
        self.same(counted.hand([0]).coefficients, HIGH.coefficients)

    def hand_once(self, counted, coins):
        ahead = counted.calls
        hand_in = counted.hand(coins)
        self.same(counted.calls, ahead + 1)
        return hand_in

    def test_counted_asks_once(self):
        inner = Alien(lambda row: Poly(5, row))
        inner.prime = 5
        counted = Counted(inner)
        for coins in ([], [1, 2], [1, 2]):
            self.same(counted.hand(coins).coefficients, tuple(coins))
        self.same(inner.asked, [(), (1, 2), (1, 2)])
        self.same((counted.calls, counted.numbers_sent), (3, 4))

    def test_a_call_that_raises_is_not_counted(self):
        counted = Counted(Honest(CLAIM))
        self.error(WrongPlaces, counted.hand, [0] * 3)
        self.same((counted.calls, counted.numbers_sent), (0, 0))
        counted.hand([])
        self.error(WrongPlaces, counted.hand, [0] * 3)
        self.same(counted.calls, 1)

    def test_attributes_of_the_inner_teller_are_not_taken_over(self):
        counted = Counted(Teller(5))
        counted.hand([])
        for outer in (Changed(counted, 1, ONE), Changed(Changed(counted, 2, ONE), 1, ONE)):
            self.assertFalse(hasattr(outer, "calls"))
            self.assertFalse(hasattr(outer, "numbers_sent"))
        self.same(Counted(counted).calls, 0)

    def test_tellers_inside_each_other(self):
        inner = Alien(lambda row: ONE)
        inner.prime = 5
        first = Counted(inner)
        teller = Changed(first, 2, HIGH)
        for _ in range(48):
            teller = Counted(Changed(teller, 2, ONE))
        coins = [3]
        self.same(teller.hand(coins).coefficients, (49 % 5, *HIGH.coefficients[1:]))
        self.same(coins, [3])
        self.same(teller.hand([]).coefficients, (1,))
        self.same((teller.calls, teller.numbers_sent, first.calls, first.numbers_sent), (2, 14, 2, 2))
        self.same((teller.prime, inner.asked), (5, [(3,), ()]))

    def test_every_teller_passes_a_new_list(self):
        # The alien teller spoils its list, which must be nobody else's.
        for outer in (lambda inner: Changed(inner, 1, ONE), Counted):
            inner = Alien(lambda row: Poly(5, row))
            inner.prime = 5
            coins = [1, 2]
            self.same(outer(inner).hand(coins).coefficients, (1, 2))
            self.same(coins, [1, 2])


class Talks(Case):
    def test_honest_talks(self):
        for prime in (2, 5, 101):
            for places in range(4):
                for form in some_forms(prime, places):
                    claim = Claim(form)
                    for coins in all_points(prime, places)[::7][:20]:
                        journal = self.keeps(lambda row: talk(claim, Honest(claim), row), list(coins))
                        expected = [(Poly(prime, plain_round(form, coins[:k])), coin) for k, coin in enumerate(coins)]
                        self.assertEqual(journal, Journal(prime, claim.total, expected))
                        self.same(is_let_by(claim, journal), True)

    def test_a_false_claim_ends_in_the_first_round(self):
        claim = CLAIM.with_total((CLAIM.total + 1) % 5)
        journal = talk(claim=claim, teller=Honest(claim), coins=(1, 2, 3))
        self.same((journal.total, journal.coins), (claim.total, (1,)))
        self.same(judge(claim, journal), (1, "sum"))

    def test_a_talk_ends_behind_the_broken_round(self):
        for at, (poly, why) in itertools.product((1, 2, 3), ((ONE, "sum"), (HIGH, "degree"))):
            inner = Alien(Changed(Honest(CLAIM), at, poly).hand)
            journal = talk(CLAIM, inner, [4, 3, 2])
            self.same(journal.coins, (4, 3, 2)[:at])
            self.same(judge(CLAIM, journal), (at, why))
            # One call in each round of the journal, none behind its end.
            self.same(inner.asked, [(4, 3, 2)[:k] for k in range(at)])

    def test_a_look_does_not_end_the_talk(self):
        claim = Claim(Form(5, 1, [((1,), 1)]), total=2)
        journal = talk(claim, Told(5, [Poly(5, [0, 2])]), [3])
        self.same(journal.text(), "5 2\n3 0.2")

    def test_any_teller_may_talk(self):
        honest = Honest(CLAIM)
        alien = Alien(lambda row: honest.hand(list(row)))
        journal = talk(CLAIM, alien, [4, 3, 2])
        self.same(is_let_by(CLAIM, journal), True)
        self.same(alien.asked, [(), (4,), (4, 3)])
        counted = Counted(honest)
        talk(CLAIM, counted, [4, 3, 2])
        self.same((counted.calls, counted.numbers_sent), (3, sum(len(poly.coefficients) for poly in journal.polys)))

    def test_no_places(self):
        claim = Claim(Form(5, 0, [((), 3)]), total=4)
        alien = Alien(raises)
        self.same(talk(claim, alien, []).text(), "5 4")
        self.same(talk(claim, Teller(7), ()).text(), "5 4")
        self.same(alien.asked, [])

    def test_wrong_coins(self):
        for coins in ([], [0], [0] * 2, [0] * 4, ["wrong"] * 4):
            self.error(WrongPlaces, talk, CLAIM, Alien(raises), coins)
        self.no_number(5, lambda coin: talk(CLAIM, Honest(CLAIM), [0, 0, coin]))
        self.same(self.error(NotInField, talk, CLAIM, Alien(raises), [0, 8, 9]).value, 8)

    def test_hand_ins_over_another_prime(self):
        self.error(OtherField, talk, CLAIM, Teller(7), [0, 0, 0])
        # Ahead of every check of the round, and when it is handed in, not later.
        alien = Alien(lambda row: Poly(7, [1] * 50))
        self.error(OtherField, talk, CLAIM, alien, [0, 0, 0])
        self.same(alien.asked, [()])
        alien = Alien(lambda row: FOREIGN if len(row) == 1 else Honest(CLAIM).hand(list(row)))
        self.error(OtherField, talk, CLAIM, alien, [0, 0, 0])
        self.same(alien.asked, [(), (0,)])
        # A round that is not played any more is not asked for.
        alien = Alien(lambda row: FOREIGN if len(row) == 1 else HIGH)
        self.same(judge(CLAIM, talk(CLAIM, alien, [0, 0, 0])), (1, "degree"))

    def test_an_error_of_the_teller_comes_out(self):
        self.error(DivisionByZero, talk, CLAIM, Alien(raises), [0, 0, 0])
        inner = Alien(lambda row: raises(row) if row else Honest(CLAIM).hand([]))
        inner.prime = 5
        counted = Counted(inner)
        self.error(DivisionByZero, talk, CLAIM, counted, [0, 0, 0])
        self.same(counted.calls, 1)

    def test_calls_stay_counted_if_the_talk_fails(self):
        counted = Counted(Told(7, [FOREIGN]))
        self.error(OtherField, talk, CLAIM, counted, [0, 0, 0])
        self.same((counted.calls, counted.numbers_sent), (1, 1))


class HandIns(Case):
    def test_hand_ins(self):
        honest = Honest(CLAIM)
        for many in range(4):
            coins = [4, 3, 2][:many]
            polys = self.keeps(lambda row: hand_ins(honest, row), coins)
            self.same([poly.coefficients for poly in polys], [plain_round(FORM, coins[:k]) for k in range(many)])
        self.same([poly.coefficients for poly in hand_ins(teller=Told(5, [ONE, HIGH]), coins=[0] * 4)],
                  [(1,), HIGH.coefficients, (), ()])
        self.same(len(hand_ins(Teller(5), [0] * 200)), 200)
        self.new_list(hand_ins, Told(5, [ONE]), [0])

    def test_every_beginning_is_asked_for_once(self):
        alien = Alien(lambda row: Poly(5, row))
        alien.prime = 5
        polys = hand_ins(alien, (1, 2, 3))
        self.same([poly.coefficients for poly in polys], [(), (1,), (1, 2)])
        self.same(alien.asked, [(), (1,), (1, 2)])
        self.same(hand_ins(alien, []), [])

    def test_hand_ins_over_another_prime_are_listed(self):
        alien = Alien(lambda row: FOREIGN)
        alien.prime = 5
        self.same([poly.prime for poly in hand_ins(alien, [4, 4])], [7, 7])

    def test_wrong_coins(self):
        self.no_number(5, lambda coin: hand_ins(Teller(5), [0, coin]))
        self.no_number(7, lambda coin: hand_ins(Teller(7), [coin]))
        self.error(WrongPlaces, hand_ins, Honest(CLAIM), [0] * 4)
        alien = Alien(raises)
        alien.prime = 5
        self.error(NotInField, hand_ins, alien, [0, 9])
        self.error(DivisionByZero, hand_ins, alien, [0])
        self.same(hand_ins(alien, []), [])
