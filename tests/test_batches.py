"""Points [47] to [51] and the entry sumtalk/batches.py."""

import itertools
from fractions import Fraction

from sumtalk import batches
from sumtalk.batches import (Batch, bad_numbers, batch_rows, batch_share, free_share, mix_journals, powers,
                             worst_batch_share, worst_errors)
from sumtalk.claims import Claim
from sumtalk.counts import rule_share
from sumtalk.errors import NotInField, OtherCoins, OtherField, OutOfRange, TooLarge, WrongPlaces
from sumtalk.forms import Form
from sumtalk.journals import Journal
from sumtalk.judging import is_let_by
from sumtalk.liars import Liar, best_paper
from sumtalk.polys import Poly
from sumtalk.shares import Share
from sumtalk.tellers import Honest, talk
from helper import Case, HUGE, OTHER_KINDS, all_points, plain_sum, plain_value, some_forms

FORM = Form(5, 2, [((0, 1), 3), ((2, 0), 1)])
SEVENTH = Claim(Form(7, 2, []))
LONG = Claim(Form(5, 3, []))
# 1,024 terms each; all but one of each stand in the other one, too.
GRID = list(itertools.product(range(4), repeat=5))
LEFT = Form(3, 5, [(exponents, 1) for exponents in GRID])
RIGHT = Form(3, 5, [(exponents, 2) for exponents in GRID[1:]] + [((12,) * 5, 1)])


def with_errors(prime, errors, degrees=()):
    """A batch of claims with these errors."""
    form = Form(prime, len(degrees), [])
    return Batch([Claim(form, degrees=degrees, total=error) for error in errors])


def fraction(share):
    return Fraction(share.top, share.bottom)


def plain_bad(prime, errors):
    return [w for w in range(prime) if sum(error * w ** at for at, error in enumerate(errors)) % prime == 0]


def batches_over(prime, places):
    """Batches of several claims of unlike told degrees."""
    claims = []
    for at, form in enumerate(some_forms(prime, places)):
        claims.append(Claim(form))
        claims.append(Claim(form, degrees=[3 + (at + place) % 3 for place in range(places)], total=at % prime))
    return [Batch(claims[:1]), Batch(claims[1:2]), Batch(claims[2:5]), Batch(claims)]


class Making(Case):
    def test_attributes(self):
        first = Claim(FORM, degrees=[2, 5])
        second = Claim(FORM, degrees=[4, 1], total=0)
        for row in ([first, second], (first, second)):
            batch = Batch(claims=row)
            self.same((batch.claims, batch.prime, batch.places, batch.degrees), ((first, second), 5, 2, (4, 5)))
            self.assertLessEqual({"claims", "prime", "places", "degrees"}, set(vars(batch)))
        row = [first]
        batch = Batch(row)
        row.append(second)
        self.same((batch.claims, batch.degrees), ((first,), (2, 5)))

    def test_number_of_claims(self):
        claim = Claim(FORM)
        self.error(WrongPlaces, Batch, [])
        self.error(WrongPlaces, Batch, ())
        self.same(len(Batch([claim] * 8).claims), 8)
        self.error(TooLarge, Batch, [claim] * 9)
        self.error(TooLarge, Batch, [claim] + [SEVENTH] * 8)
        self.error(TooLarge, Batch, ["wrong"] * 9)

    def test_unlike_claims(self):
        claim = Claim(FORM)
        self.error(OtherField, Batch, [claim, SEVENTH])
        self.error(WrongPlaces, Batch, [claim, LONG])
        # The prime of each claim ahead of its places, and each claim completely ahead of the next one.
        self.error(OtherField, Batch, [LONG, SEVENTH])
        self.error(OtherField, Batch, [claim, SEVENTH, LONG])
        self.error(WrongPlaces, Batch, [claim, LONG, SEVENTH])

    def test_errors_and_truth(self):
        for prime in (2, 5, 101):
            for places in range(4):
                for batch in batches_over(prime, places):
                    errors = [(claim.total - plain_sum(claim.form)) % prime for claim in batch.claims]
                    self.same(batch.errors(), errors)
                    self.same(batch.is_true(), not any(errors))
        self.new_list(with_errors(5, [1, 2]).errors)
        self.same(with_errors(5, [0, 0]).is_true(), True)
        self.same(with_errors(5, [0, 3]).is_true(), False)

    def test_things_are_defined_in_their_places(self):
        for name in ("__init__", "errors", "is_true", "combined", "combined_by"):
            self.assertIn(name, vars(Batch))
        for thing in (Batch, bad_numbers, batch_rows, batch_share, free_share, mix_journals, powers, worst_batch_share,
                      worst_errors):
            self.same(thing.__module__, "sumtalk.batches")
            self.assertIs(getattr(batches, thing.__name__), thing)


class Combining(Case):
    def test_combined(self):
        for prime in (2, 5, 101):
            for places in range(4):
                for batch in batches_over(prime, places):
                    many = len(batch.claims)
                    for weights in ([0] * many, [1] * many, [(3 * at + 2) % prime for at in range(many)]):
                        claim = self.keeps(batch.combined, weights)
                        form = Form(prime, places, [])
                        for part, weight in zip(batch.claims, weights):
                            form = form + part.form.scale(weight)
                        self.assertEqual(claim.form, form)
                        self.same(claim.total, sum(part.total * weight for part, weight in
                                                   zip(batch.claims, weights)) % prime)
                        self.same(claim.degrees, batch.degrees)
                        self.same(claim.error(), sum(error * weight for error, weight in
                                                     zip(batch.errors(), weights)) % prime)

    def test_combined_by(self):
        for prime in (2, 5):
            for batch in batches_over(prime, 2):
                for number in range(prime):
                    weights = [number ** at % prime for at in range(len(batch.claims))]
                    self.assertEqual(batch.combined_by(number=number), batch.combined(numbers=weights))
        self.no_number(5, batches_over(5, 2)[1].combined_by)

    def test_wrong_weights(self):
        batch = Batch([Claim(FORM)] * 2)
        for row in ([], [1], [1] * 3, ["wrong"] * 9):
            self.error(WrongPlaces, batch.combined, row)
        self.no_number(5, lambda number: batch.combined([1, number]))
        self.same(self.error(NotInField, batch.combined, [8, 9]).value, 8)

    def test_number_of_terms(self):
        batch = Batch([Claim(LEFT), Claim(RIGHT), Claim(RIGHT)])
        self.same(len(LEFT.terms), 1024)
        self.same(len(RIGHT.terms), 1024)
        for weights in ([1, 2, 0], [1, 1, 2], [2, 2, 2], [2, 1, 0]):
            form = {}
            for part, weight in zip(batch.claims, weights):
                for exponents, coefficient in part.form.terms:
                    form[exponents] = (form.get(exponents, 0) + weight * coefficient) % 3
            many = sum(1 for coefficient in form.values() if coefficient)
            if many > 1024:
                self.error(TooLarge, batch.combined, weights)
            else:
                self.same(len(batch.combined(weights).form.terms), many)
        # The first two alone have too many terms, all three together have not.
        self.error(TooLarge, batch.combined, [1, 2, 0])
        self.same(len(batch.combined([1, 2, 1]).form.terms), 1024)
        self.same(len(batch.combined([0, 1, 0]).form.terms), 1024)
        self.error(TooLarge, batch.combined_by, 1)
        self.same([len(batch.combined_by(number).form.terms) for number in (0, 2)], [1024, 1024])
        self.same(len(Batch(batch.claims[:2]).combined([1, 1]).form.terms), 2)

    def test_powers(self):
        for prime in (2, 5, 101):
            for number in {0, 1, prime - 1, 2 % prime}:
                for many in (0, 1, 2, 3, 8, 128):
                    self.same(powers(prime=prime, number=number, many=many),
                              [number ** at % prime for at in range(many)])
        self.same(powers(5, 0, 3), [1, 0, 0])
        self.same(powers(5, 3, 0), [])
        self.new_list(powers, 5, 3, 2)
        self.no_prime(lambda prime: powers(prime, 9, 129))
        self.no_number(5, lambda number: powers(5, number, 2))
        self.same(self.error(NotInField, powers, 5, 9, 129).value, 9)
        self.no_range(0, 128, lambda many: powers(5, 2, many))


class Shares(Case):
    def test_bad_numbers(self):
        for prime in (2, 3, 5, 101):
            for errors in ([0], [1], [0, 1], [1, 1], [1, prime - 1], [0, 0, 1], [1, 1, 1], [0, 0, 0], [1] * 8, [0] * 8,
                           [0, 1, 0, 1]):
                batch = with_errors(prime, errors)
                self.same(bad_numbers(batch=batch), plain_bad(prime, errors))
                self.same([w for w in range(prime) if batch.combined_by(w).is_true()], plain_bad(prime, errors))
        self.new_list(bad_numbers, with_errors(5, [0]))

    def test_all_numbers_may_be_bad(self):
        for prime, errors in ((2, [0, 1, 1]), (2, [0] * 6 + [1, 1]), (3, [0, 2, 0, 1]), (5, [0, 4, 0, 0, 0, 1])):
            batch = with_errors(prime, errors, [1])
            self.same(batch.is_true(), False)
            self.same(bad_numbers(batch), list(range(prime)))
            self.same(batch_share(batch).text(), "1/1")
            self.same(len(batch_rows(batch)), prime ** 2)

    def test_batch_share_and_free_share(self):
        for prime in (2, 3, 5, 101):
            for degrees in ((), (0,), (1, 2), (0, 3), (1, 0), (12, 12, 12, 12, 12)):
                rule = fraction(rule_share(prime, degrees))
                for errors in ([0], [1], [0, 1], [1, prime - 1], [0, 0], [0, 1, prime - 1], [2 % prime] * 8):
                    batch = with_errors(prime, errors, degrees)
                    bad = Fraction(len(plain_bad(prime, errors)), prime)
                    shares = [1 - (1 - bad) * (1 - rule), 1 - (1 - Fraction(1, prime)) * (1 - rule)]
                    if not any(errors):
                        shares = [Fraction(1)] * 2
                    self.assertIsInstance(batch_share(batch), Share)
                    self.assertIsInstance(free_share(batch), Share)
                    self.same([fraction(batch_share(batch=batch)), fraction(free_share(batch=batch))], shares)

    def test_the_degrees_are_those_of_the_batch(self):
        form = Form(5, 2, [])
        batch = Batch([Claim(form, degrees=[0, 2], total=1), Claim(form, degrees=[1, 0])])
        rule = fraction(rule_share(5, [1, 2]))
        self.same(fraction(batch_share(batch)), rule)
        self.same(fraction(free_share(batch)), 1 - Fraction(4, 5) * (1 - rule))

    def test_shares_of_batches_that_cannot_be_combined(self):
        claims = [Claim(LEFT, total=0), Claim(RIGHT, total=0)]
        batch = Batch(claims)
        self.error(TooLarge, batch.combined_by, 2)
        errors = [claim.error() for claim in claims]
        self.same(bad_numbers(batch), plain_bad(3, errors))
        self.assertIsInstance(batch_share(batch), Share)
        self.assertIsInstance(free_share(batch), Share)

    def test_worst_errors(self):
        for prime in (2, 3, 5, 101):
            for many in (1, 2, 3, 4, 5, 6, 8, 100, 101, 102, 103, 128):
                row = worst_errors(prime=prime, many=many)
                most = min(many - 1, prime)
                self.same(len(row), many)
                self.same(plain_bad(prime, row), list(range(most)))
                self.same(row[most:], [1] + [0] * (many - most - 1))
                for number in range(min(prime, 9)):
                    expected = 1
                    for root in range(most):
                        expected = expected * (number - root) % prime
                    self.same(sum(error * number ** at for at, error in enumerate(row)) % prime, expected)
        self.same(worst_errors(5, 3), [0, 4, 1])
        self.same(worst_errors(2, 5), [0, 1, 1, 0, 0])
        self.new_list(worst_errors, 5, 1)

    def test_no_batch_has_a_greater_share(self):
        for prime, many in ((2, 1), (2, 2), (2, 3), (2, 4), (3, 1), (3, 2), (3, 3), (3, 4), (5, 3)):
            for degrees in ([], [1], [0, 2]):
                worst = worst_batch_share(prime=prime, many=many, degrees=degrees)
                self.assertIsInstance(worst, Share)
                false = [errors for errors in itertools.product(range(prime), repeat=many) if any(errors)]
                found = [fraction(batch_share(with_errors(prime, errors, degrees))) for errors in false]
                self.same(max(found), fraction(worst))
                self.assertEqual(batch_share(with_errors(prime, worst_errors(prime, many), degrees)), worst)

    def test_worst_batch_share(self):
        for prime in (2, 3, 5, 101):
            for many in (1, 2, 3, 8, 9, 101, 102, 103, 128):
                for degrees in ([], [1, 0], [127] * 32):
                    share = self.keeps(lambda row: worst_batch_share(prime, many, row), degrees)
                    bad = Fraction(min(many - 1, prime), prime)
                    self.same(fraction(share), 1 - (1 - bad) * (1 - fraction(rule_share(prime, degrees))))

    def test_wrong_arguments_of_the_worst(self):
        self.no_prime(lambda prime: worst_errors(prime, 0))
        self.no_range(1, 128, lambda many: worst_errors(5, many))
        self.no_prime(lambda prime: worst_batch_share(prime, 0, [128] * 33))
        self.no_range(1, 128, lambda many: worst_batch_share(5, many, [1]))
        for many in (0, 129) + HUGE + OTHER_KINDS:
            self.error(OutOfRange, worst_batch_share, 5, many, [0] * 33)
        self.error(TooLarge, worst_batch_share, 5, 1, [0] * 33)
        self.error(TooLarge, worst_batch_share, 5, 1, ["wrong"] * 33)
        self.no_range(0, 127, lambda degree: worst_batch_share(5, 2, [0, degree]))


class LetByRows(Case):
    def test_batch_rows(self):
        for prime, places in ((2, 0), (2, 1), (2, 2), (2, 3), (3, 0), (3, 2), (5, 1), (5, 2)):
            for batch in batches_over(prime, places):
                expected = []
                for w, *coins in all_points(prime, places + 1):
                    claim = batch.combined_by(w)
                    if is_let_by(claim, talk(claim, Liar(claim, best_paper(claim)), coins)):
                        expected.append((w, *coins))
                self.same(batch_rows(batch=batch), expected)
                self.same(Fraction(len(expected), prime ** (places + 1)), fraction(batch_share(batch)))
        self.new_list(batch_rows, with_errors(5, [0]))

    def test_number_of_rows(self):
        for prime, places, fits in ((31, 1, True), (37, 1, False), (101, 0, True), (101, 1, False), (3, 5, True),
                                    (5, 3, True), (5, 4, False), (11, 2, False)):
            batch = with_errors(prime, [0, 1], (1,) * places)
            if fits:
                self.same(Fraction(len(batch_rows(batch)), prime ** (places + 1)), fraction(batch_share(batch)))
            else:
                self.error(TooLarge, batch_rows, batch)

    def test_combining_may_be_too_large(self):
        self.error(TooLarge, batch_rows, Batch([Claim(LEFT, total=0), Claim(RIGHT, total=0)]))
        self.error(TooLarge, batch_rows, Batch([Claim(RIGHT, total=0), Claim(LEFT, total=0)]))


class Mixing(Case):
    def journals(self, prime, coins):
        form = Form(prime, len(coins), [((1,) * len(coins), 1), ((0,) * len(coins), prime - 1)])
        claim = Claim(form)
        rounds = [(Poly(prime, [at + 1 for at in range(min(prime - 1, k + 1))]), coin) for k, coin in enumerate(coins)]
        return [talk(claim, Honest(claim), coins), Journal(prime, prime - 1, rounds), Journal(prime, 0, rounds)]

    def test_mixing(self):
        for prime, coins in ((2, (1, 0, 1)), (5, (2, 3)), (101, (100, 7, 5, 0)), (5, ())):
            for journals in (self.journals(prime, coins), self.journals(prime, coins)[:1]):
                for weights in ([0] * 3, [1, 1, 1], [2 % prime, 3 % prime, prime - 1]):
                    weights = weights[:len(journals)]
                    self.keeps(lambda row: mix_journals(journals, row).text(), weights)
                    mixed = mix_journals(journals=journals, numbers=weights)
                    self.same(mixed.coins, coins)
                    self.same(mixed.total, sum(weight * journal.total for weight, journal in
                                               zip(weights, journals)) % prime)
                    for at, poly in enumerate(mixed.polys):
                        for number in range(min(prime, 7)):
                            expected = sum(weight * journal.polys[at].at(number) for weight, journal in
                                           zip(weights, journals)) % prime
                            self.same(poly.at(number), expected)
                        expected = Poly(prime, [])
                        for weight, journal in zip(weights, journals):
                            expected = expected + journal.polys[at].scale(weight)
                        self.assertEqual(poly, expected)

    def test_mixed_talks_are_talks_on_the_combined_claim(self):
        claims = [Claim(form, degrees=[3, 3]) for form in some_forms(5, 2)]
        batch = Batch(claims)
        for coins in all_points(5, 2)[::4]:
            journals = [talk(claim, Honest(claim), coins) for claim in claims]
            for number in range(5):
                weights = powers(5, number, len(claims))
                claim = batch.combined(weights)
                mixed = mix_journals(tuple(journals), weights)
                self.assertEqual(mixed, talk(claim, Honest(claim), coins))
                self.same(plain_value(claim.form, coins), mixed.owed()[-1])

    def test_number_of_journals(self):
        journal = Journal(5, 1, [(Poly(5, [1]), 2)])
        self.error(WrongPlaces, mix_journals, [], [])
        self.error(WrongPlaces, mix_journals, [], ["wrong"])
        self.same(mix_journals([journal] * 8, [1] * 8).text(), "5 3\n2 3")
        self.error(TooLarge, mix_journals, [journal] * 9, [1] * 9)
        self.error(TooLarge, mix_journals, ["wrong"] * 9, [])

    def test_wrong_arguments(self):
        journal = Journal(5, 1, [(Poly(5, [1]), 2)])
        other = Journal(5, 1, [(Poly(5, [1]), 3)])
        foreign = Journal(7, 1, [])
        self.error(OtherField, mix_journals, [journal, foreign], [])
        self.error(OtherField, mix_journals, [journal, other, foreign], [1, 1, 1])
        for row in ([], [1], [1] * 3, ["wrong"] * 9):
            self.error(WrongPlaces, mix_journals, [journal, other], row)
        self.no_number(5, lambda number: mix_journals([journal, journal], [1, number]))
        # Unlike coins are told last.
        self.same(self.error(NotInField, mix_journals, [journal, other], [1, 9]).value, 9)
        for journals in ([journal, other], [journal, journal, other], [journal, journal.cut(0)],
                         [journal.cut(0), journal], [journal, journal.extended(Poly(5, []), 2)]):
            self.error(OtherCoins, mix_journals, journals, [0] * len(journals))
