"""Points [36] to [41] and the entry sumtalk/counts.py."""

import functools
import itertools
from fractions import Fraction

from sumtalk import counts
from sumtalk.claims import Claim
from sumtalk.counts import (best_count, best_teller, counting_rounds, let_by_rows, liar_share, round_roots, rule_share,
                            search_cost, search_share, share_of, zero_bound, zero_form, zero_points, zero_share)
from sumtalk.errors import DivisionByZero, OtherField, OutOfRange, Repeated, TooLarge, WrongPlaces
from sumtalk.fillings import round_poly
from sumtalk.forms import Form, read_form
from sumtalk.judging import is_let_by
from sumtalk.polys import Poly
from sumtalk.shares import Share
from sumtalk.tellers import Changed, Counted, Honest, Rows, Teller, Told, talk
from helper import Alien, Case, HUGE, OTHER_KINDS, all_points, plain_sum, plain_value, some_forms

FORM = Form(5, 2, [((0, 1), 3), ((2, 0), 1)])
FOREIGN = Poly(7, [1])


def fraction(share):
    return Fraction(share.top, share.bottom)


def plain_rule(prime, degrees):
    """The rule share as a fraction."""
    rest = Fraction(1)
    for degree in degrees:
        if prime == 2 and degree == 0:
            break
        rest *= 1 - Fraction(min(degree, prime - 1), prime)
    return 1 - rest


def plain_best(claim):
    """The greatest number of rows let by, as the document tells the search."""
    prime = claim.prime

    @functools.lru_cache(None)
    def value(coins, owed):
        if len(coins) == claim.places:
            return int(plain_value(claim.form, coins) == owed)
        best = 0
        for row in itertools.product(range(prime), repeat=claim.degrees[len(coins)] + 1):
            if (row[0] + sum(row)) % prime == owed:
                values = [sum(number * coin ** power for power, number in enumerate(row)) % prime
                          for coin in range(prime)]
                best = max(best, sum(value((*coins, coin), values[coin]) for coin in range(prime)))
        return best

    return value((), claim.total)


def small_claims():
    """Claims that a search finds quickly, true and false ones."""
    for prime, degrees in ((2, ()), (2, (0,)), (2, (1,)), (2, (3,)), (2, (0, 1)), (2, (1, 0)), (2, (1, 0, 1)),
                           (2, (2, 1, 1)), (2, (1, 1, 1, 1)), (2, (0, 0, 0, 0, 0)), (3, ()), (3, (0,)), (3, (2,)),
                           (3, (3,)), (3, (1, 1)), (3, (0, 2)), (3, (2, 0)), (3, (1, 1, 1)), (5, (0,)), (5, (1,)),
                           (5, (2,)), (5, (1, 1)), (7, (1,)), (7, (0, 0)), (11, (1,)), (53, (0,))):
        places = len(degrees)
        grid = list(itertools.product(*[range(degree + 1) for degree in degrees]))
        for terms in ([], [(exponents, (3 * at + 2) % prime) for at, exponents in enumerate(grid)],
                      [(exponents, 1) for exponents in grid[::-2]]):
            form = Form(prime, places, terms)
            for total in {0, 1, prime - 1, plain_sum(form)}:
                yield Claim(form, degrees=degrees, total=total)


class TellerShares(Case):
    def test_honest_tellers(self):
        for prime in (2, 3, 5):
            for places in range(4):
                for form in some_forms(prime, places):
                    for total in range(prime):
                        claim = Claim(form, total=total)
                        rows = all_points(prime, places) if claim.is_true() else []
                        self.same(let_by_rows(claim, Honest(claim)), rows)
                        self.same(share_of(claim, Honest(claim)).text(), "1/1" if rows else "0/1")

    def test_rows_are_those_on_which_the_talk_is_let_by(self):
        seen = set()
        for prime, degrees in ((2, (1, 2, 1)), (3, (2, 1)), (5, (2, 2)), (7, (3,))):
            places = len(degrees)
            grid = list(itertools.product(*[range(degree + 1) for degree in degrees]))
            form = Form(prime, places, [(exponents, (at * at + 1) % prime) for at, exponents in enumerate(grid)])
            for total in range(prime):
                claim = Claim(form, total=total)
                halves = [Poly(prime, [(total * (prime + 1) // 2) % prime]), Poly(prime, [0, total])]
                for teller in (Told(prime, halves * 2), Changed(Honest(claim), 1, Poly(prime, [1, prime - 2])),
                               Changed(Honest(claim), places, Poly(prime, [0, 1])), Teller(prime)):
                    expected = [row for row in all_points(prime, places) if is_let_by(claim, talk(claim, teller, row))]
                    self.same(let_by_rows(claim, teller), expected)
                    share = share_of(claim=claim, teller=teller)
                    self.assertIsInstance(share, Share)
                    self.same(fraction(share), Fraction(len(expected), prime ** places))
                    seen.add(fraction(share))
        self.assertGreater(len(seen), 5)
        self.new_list(let_by_rows, Claim(FORM), Honest(Claim(FORM)))

    def test_no_places(self):
        claim = Claim(Form(5, 0, [((), 3)]))
        nobody = Alien(lambda row: FOREIGN)
        for teller in (nobody, Teller(7), Teller(5)):
            self.same(let_by_rows(claim, teller), [()])
            self.same(share_of(claim, teller).text(), "1/1")
            self.same(let_by_rows(claim.with_total(4), teller), [])
            self.same(share_of(claim.with_total(4), teller).text(), "0/1")
        self.same(nobody.asked, [])

    def test_number_of_rows(self):
        for prime, places, fits in ((31, 2, True), (37, 2, False), (101, 1, True), (101, 2, False), (2, 5, True),
                                    (3, 5, True), (5, 4, True), (5, 5, False), (7, 3, True), (7, 4, False),
                                    (11, 3, False)):
            claim = Claim(Form(prime, places, []))
            alien = Alien(lambda row: Poly(prime, []))
            if fits:
                self.same(let_by_rows(claim, alien), all_points(prime, places))
                self.same(share_of(claim, Teller(prime)).text(), "1/1")
            else:
                self.error(TooLarge, let_by_rows, claim, alien)
                self.error(TooLarge, share_of, claim, alien)
                self.same(alien.asked, [])

    def test_hand_ins_over_another_prime(self):
        claim = Claim(FORM)
        for call in (let_by_rows, share_of):
            self.error(OtherField, call, claim, Teller(7))
            self.error(OtherField, call, claim, Alien(lambda row: FOREIGN if row == (4,) else round_poly(FORM, row)))

    def test_the_first_error_is_raised(self):
        claim = Claim(Form(3, 3, []))
        answers = {(0, 1): WrongPlaces, (0, 2): Repeated, (1,): DivisionByZero}

        def answer(row):
            if row in answers:
                raise answers[row]()
            return Poly(3, [])

        for call in (let_by_rows, share_of):
            alien = Alien(answer)
            self.error(WrongPlaces, call, claim, alien)
            self.same(sorted(set(alien.asked)), [(), (0,), (0, 0), (0, 1)])

    def test_no_coins_are_asked_for_behind_a_broken_round(self):
        claim = Claim(Form(3, 3, []), degrees=[1, 1, 1])
        for broken in (Poly(3, [1]), Poly(3, [0, 0, 1])):
            alien = Alien(lambda row: broken if row == (1,) else Poly(3, [0]))
            self.same(let_by_rows(claim, alien), [row for row in all_points(3, 3) if row[0] != 1])
            self.same(set(alien.asked), {(), (0,), (1,), (2,)} | set(row for row in all_points(3, 2) if row[0] != 1))

    def test_lists_are_new_for_every_call(self):
        # An alien teller raises an error of its own if not.
        honest = Honest(Claim(FORM))
        alien = Alien(lambda row: honest.hand(list(row)))
        self.same(share_of(Claim(FORM), alien).text(), "1/1")
        counted = Counted(honest)
        share_of(Claim(FORM), counted)
        self.assertGreaterEqual(counted.calls, 6)


class Rules(Case):
    def test_examples_of_the_document(self):
        self.same(rule_share(5, [1, 2]).text(), "13/25")
        self.same(rule_share(2, [1, 0, 1]).text(), "1/2")

    def test_round_roots(self):
        for prime in (2, 3, 5, 101):
            for degree in (0, 1, 2, 3, 4, 5, 99, 100, 101, 127):
                self.same(round_roots(prime=prime, degree=degree), min(degree, prime - 1))
        self.no_prime(lambda prime: round_roots(prime, 128))
        self.no_range(0, 127, lambda degree: round_roots(5, degree))

    def test_counting_rounds(self):
        for degrees in ([], [0], [1], [0, 1], [1, 0], [1, 1, 0, 1, 0], [127] * 32, [0] * 32, [1] * 31 + [0]):
            for prime in (3, 5, 101):
                self.same(self.keeps(counting_rounds, prime, degrees), len(degrees))
            self.same(self.keeps(counting_rounds, 2, degrees), (degrees + [0]).index(0))
        self.same(counting_rounds(prime=2, degrees=(2, 0)), 1)

    def test_rule_share(self):
        for prime in (2, 3, 5, 101):
            for degrees in ([], [0], [1], [2, 0, 3], [0, 4, 4], [1, 2, 3, 4, 5], [127], [100], [99], [127] * 32,
                            [1] * 32, [0] * 32, [1] * 31 + [0]):
                share = self.keeps(rule_share, prime, degrees)
                self.assertIsInstance(share, Share)
                self.same(fraction(share), plain_rule(prime, degrees))
        self.same(rule_share(prime=2, degrees=[0, 1]).text(), "0/1")

    def test_liar_share(self):
        for prime in (2, 3, 5, 101):
            for degrees in ((), (0,), (1, 2), (0, 2), (12, 12, 12)):
                claim = Claim(Form(prime, len(degrees), []), degrees=degrees)
                self.same(liar_share(claim=claim).text(), "1/1")
                for total in {1, prime - 1}:
                    self.same(fraction(liar_share(claim.with_total(total))), plain_rule(prime, degrees))
        # The told degrees count, not those of the form.
        self.same(liar_share(Claim(FORM, total=0)).text(), "13/25")
        self.same(liar_share(Claim(FORM, degrees=[2, 2], total=0)).text(), "16/25")

    def test_search_cost(self):
        for prime in (2, 5, 101):
            for degrees in ([], [0], [0, 0], [3, 1, 2], [127], [127] * 32, [0] * 32):
                expected = sum(prime ** (k + degree + 1) for k, degree in enumerate(degrees, 1))
                self.same(self.keeps(search_cost, prime, degrees), expected)
        self.same(search_cost(prime=2, degrees=[8, 5, 1]), 2 ** 10 + 2 ** 8 + 2 ** 5)

    def test_wrong_degrees(self):
        for call in (counting_rounds, rule_share, search_cost, zero_bound):
            self.no_prime(lambda prime: call(prime, [128] * 33))
            self.error(TooLarge, call, 5, [0] * 33)
            self.error(TooLarge, call, 2, ["wrong"] * 33)
            for prime in (2, 5):
                self.no_range(0, 127, lambda degree: call(prime, [degree]))
                self.no_range(0, 127, lambda degree: call(prime, [0, 1, degree]))


class Searches(Case):
    def test_the_search_finds_what_the_rule_tells(self):
        for claim in small_claims():
            with self.subTest(claim.text()):
                count = best_count(claim=claim)
                rows = claim.prime ** claim.places
                self.same(count, plain_best(claim))
                self.same(Fraction(count, rows), Fraction(1) if claim.is_true() else
                          plain_rule(claim.prime, claim.degrees))
                self.assertEqual(search_share(claim=claim), liar_share(claim))
                self.assertIsInstance(search_share(claim), Share)

    def test_best_teller(self):
        for claim in small_claims():
            with self.subTest(claim.text()):
                teller = best_teller(claim=claim)
                self.assertIsInstance(teller, Rows)
                self.same(teller.prime, claim.prime)
                self.assertEqual(share_of(claim, teller), search_share(claim))

    def test_no_polynomial_has_the_owed_number(self):
        claim = Claim(Form(2, 2, []), degrees=[0, 1], total=1)
        self.same(best_count(claim), 0)
        self.same(share_of(claim, best_teller(claim)).text(), "0/1")
        # A liar that is lucky ahead of such a round is let by.
        self.same(best_count(Claim(Form(2, 3, []), degrees=[1, 0, 0], total=1)), 4)

    def test_no_places(self):
        claim = Claim(Form(5, 0, [((), 3)]))
        for total, count in ((3, 1), (4, 0)):
            self.same(best_count(claim.with_total(total)), count)
            self.same(search_share(claim.with_total(total)).text(), f"{count}/1")
            self.same(share_of(claim.with_total(total), best_teller(claim.with_total(total))).text(), f"{count}/1")

    def test_cost_of_a_search(self):
        for prime, degrees, cost in ((53, (0,), 2809), (59, (0,), 3481), (2, (3, 8, 5, 3, 1), 2976),
                                     (2, (4, 8, 5, 3, 1), 3008), (2, (9,), 2048), (2, (10,), 4096), (3, (5,), 2187),
                                     (3, (5, 3), 2916), (3, (5, 4), 4374), (101, (0,), 10201), (13, (1,), 2197),
                                     (3, (5, 3, 0), 2997), (3, (5, 3, 1), 3159), (11, (0, 0), 1452), (2, (12,), 16384)):
            self.same(search_cost(prime, degrees), cost)
            form = Form(prime, len(degrees), [])
            for total in (0, 1):
                claim = Claim(form, degrees=degrees, total=total)
                for call in (best_count, search_share, best_teller):
                    if cost > 3000:
                        self.error(TooLarge, call, claim)
                    else:
                        call(claim)
        # The told degrees make the cost, not those of the form.
        self.error(TooLarge, best_count, Claim(Form(2, 5, []), degrees=[12] * 5))


class Zeros(Case):
    def test_zero_points(self):
        for prime in (2, 3, 5):
            for places in range(4):
                for form in some_forms(prime, places):
                    expected = [point for point in all_points(prime, places) if plain_value(form, point) == 0]
                    self.same(zero_points(form=form), expected)
                    self.same(fraction(zero_share(form=form)), Fraction(len(expected), prime ** places))
        self.same(zero_points(Form(5, 0, [])), [()])
        self.same(zero_points(Form(5, 0, [((), 1)])), [])
        self.same(zero_points(read_form("5 2 1:0.1 4:1.0")), [(number, number) for number in range(5)])
        self.new_list(zero_points, Form(5, 1, []))

    def test_a_form_may_be_zero_everywhere_without_being_the_zero_form(self):
        form = Form(2, 1, [((1,), 1), ((2,), 1)])
        self.same(zero_points(form), [(0,), (1,)])
        self.same(zero_share(form).text(), "1/1")

    def test_number_of_points(self):
        self.same(len(zero_points(Form(31, 2, []))), 961)
        for prime, places in ((37, 2), (5, 5), (101, 2), (11, 3)):
            for call in (zero_points, zero_share):
                self.error(TooLarge, call, Form(prime, places, []))

    def test_zero_bound(self):
        for prime in (2, 3, 5, 101):
            for degrees in ([], [0], [1], [0, 1], [1, 0, 1], [2, 3], [127] * 32, [4] * 5, [0] * 32):
                rest = Fraction(1)
                for degree in degrees:
                    rest *= 1 - Fraction(min(degree, prime - 1), prime)
                self.same(fraction(self.keeps(zero_bound, prime, degrees)), 1 - rest)
        # Over 2, rounds behind a degree 0 count here.
        self.same(zero_bound(prime=2, degrees=[1, 0, 1]).text(), "3/4")
        self.same(zero_bound(2, [0, 1]).text(), "1/2")

    def test_zero_form(self):
        for prime, degrees in ((2, []), (5, []), (2, [0]), (2, [1]), (2, [12]), (2, [0, 3, 1]), (3, [1, 2]),
                               (3, [2, 5]), (5, [3, 2]), (5, [0, 12]), (7, [0, 0, 0]), (7, [6, 1]), (31, [12, 3]),
                               (3, [2] * 5)):
            form = self.keeps(zero_form, prime, degrees)
            self.same((form.prime, form.places), (prime, len(degrees)))
            for point in all_points(prime, len(degrees)):
                expected = 1
                for number, degree in zip(point, degrees):
                    for root in range(min(degree, prime - 1)):
                        expected = expected * (number - root) % prime
                self.same(form.at(point), expected)
            self.same(form.degrees, tuple(min(degree, prime - 1) for degree in degrees))
            self.assertEqual(zero_share(form), zero_bound(prime, degrees))

    def test_zero_form_formally(self):
        self.same(zero_form(prime=5, degrees=[2, 1]).text(), "5 2 4:1.1 1:2.1")
        self.same(zero_form(7, [0, 0]).text(), "7 2 1:0.0")
        self.same(zero_form(5, ()).text(), "5 0 1:-")
        self.same(zero_form(101, [3]).text(), "101 1 2:1 98:2 1:3")

    def test_zero_form_is_too_large(self):
        self.error(TooLarge, zero_form, 5, [0] * 6)
        self.error(TooLarge, zero_form, 5, ["wrong"] * 6)
        for degree in (13, 100, 127):
            # As passed: over 2 and 5 the form itself would be small.
            for prime in (2, 5, 101):
                self.error(TooLarge, zero_form, prime, [0, degree])
                self.error(OutOfRange, zero_form, prime, [degree, 128])

    def test_number_of_terms_of_a_zero_form(self):
        for prime, degrees in ((101, [12, 12, 7]), (101, [10, 10, 10]), (101, [4] * 5), (101, [3, 3, 3, 3, 12])):
            self.same(len(zero_form(prime, degrees).terms), functools.reduce(lambda left, right: left * right, degrees))
        for degrees in ([12, 12, 8], [10, 10, 11], [12, 12, 12], [12] * 5, [5, 5, 5, 5, 2], [1, 12, 1, 12, 9]):
            self.error(TooLarge, zero_form, 101, degrees)
        # Over 5 at most 4 numbers are roots, so this has exactly 1,024 terms.
        self.same(len(zero_form(5, [12] * 5).terms), 4 ** 5)
        self.same(zero_form(5, [12] * 5).degrees, (4,) * 5)

    def test_wrong_degrees_of_a_zero_form(self):
        self.no_prime(lambda prime: zero_form(prime, [128] * 6))
        for wrong in (-1, 128) + HUGE + OTHER_KINDS:
            self.error(OutOfRange, zero_form, 5, [wrong])
            self.error(OutOfRange, zero_form, 5, [13, wrong])

    def test_things_are_defined_in_their_places(self):
        for thing in (best_count, best_teller, counting_rounds, let_by_rows, liar_share, round_roots, rule_share,
                      search_cost, search_share, share_of, zero_bound, zero_form, zero_points, zero_share):
            self.same(thing.__module__, "sumtalk.counts")
            self.assertIs(getattr(counts, thing.__name__), thing)
