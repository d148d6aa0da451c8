"""Points [17] to [21] and the entry sumtalk/forms.py."""

import itertools

from sumtalk import forms
from sumtalk.errors import BadText, NotInField, NotPrime, OtherField, OutOfRange, TooLarge, WrongPlaces
from sumtalk.forms import Form, constant_form, form_of, place_form, read_form
from sumtalk.polys import Poly
from helper import Case, NO_TEXTS, OTHER_KINDS

NO_PRIMES = (4, 1, 0, -5, 103, 10 ** 6000) + OTHER_KINDS
NO_PLACES = (-1, 6, 10 ** 400, -10 ** 400) + OTHER_KINDS


def sample_terms(prime, places):
    """Several rows of terms with coefficients of the field."""
    grid = list(itertools.product(range(3), repeat=places))
    return [
        [],
        [((0,) * places, 1)],
        [((2,) * places, prime - 1), ((0,) * places, 1)],
        [(exponents, (3 * at + 1) % prime) for at, exponents in enumerate(grid[:20])],
        [(exponents, (at * at + 2) % prime) for at, exponents in enumerate(grid[::-5][:12])],
    ]


def collected(prime, pairs):
    """What a form's terms must be."""
    sums = {}
    for exponents, coefficient in pairs:
        sums[tuple(exponents)] = sums.get(tuple(exponents), 0) + coefficient
    return tuple((key, sums[key] % prime) for key in sorted(sums) if sums[key] % prime)


def value_at(prime, terms, point):
    total = 0
    for exponents, coefficient in terms:
        for number, exponent in zip(point, exponents):
            coefficient *= number ** exponent
        total += coefficient
    return total % prime


def some_points(prime, places):
    """All points of small fields, some of large ones."""
    numbers = range(prime) if prime ** places <= 130 else sorted({0, 1, prime - 1})
    return list(itertools.product(numbers, repeat=places))


class Making(Case):
    def test_bounds(self):
        self.same((forms.MAX_PLACES, forms.MAX_DEGREE, forms.MAX_TERMS), (5, 12, 1024))

    def test_attributes(self):
        for prime in (2, 5, 101):
            for places in range(6):
                for terms in sample_terms(prime, places):
                    with self.subTest((prime, places, terms[:3])):
                        form = Form(prime, places, terms)
                        expected = collected(prime, terms)
                        self.same((form.prime, form.places, form.terms), (prime, places, expected))
                        degrees = [max((key[k] for key, _ in expected), default=0) for k in range(places)]
                        self.same(form.degrees, tuple(degrees))

    def test_terms_are_listed_in_order(self):
        form = Form(5, 2, [((2, 0), 1), ((0, 10), 2), ((0, 2), 3), ((1, 1), 4), ((0, 0), 1)])
        self.same(form.terms, (((0, 0), 1), ((0, 2), 3), ((0, 10), 2), ((1, 1), 4), ((2, 0), 1)))
        self.same(form.degrees, (2, 10))

    def test_equal_exponents_come_repeatedly(self):
        form = Form(5, 1, [((3,), 4), ((0,), 1), ((3,), 3), ((0,), 1), ((3,), 1)])
        self.same(form.terms, (((0,), 2), ((3,), 3)))

    def test_coefficients_that_cancel(self):
        form = Form(5, 2, [((0, 1), 2), ((7, 12), 4), ((1, 0), 0), ((7, 12), 1)])
        self.same((form.terms, form.degrees), ((((0, 1), 2),), (0, 1)))
        form = Form(2, 1, [((12,), 1), ((12,), 1)])
        self.same((form.terms, form.degrees), ((), (0,)))

    def test_no_places(self):
        self.same(Form(5, 0, []).terms, ())
        self.same(Form(5, 0, [((), 3)]).terms, (((), 3),))
        self.same(Form(5, 0, [([], 3), ((), 4)]).terms, (((), 2),))
        self.same(Form(5, 0, [((), 3), ((), 2)]).terms, ())
        self.same(Form(5, 0, [((), 3)]).degrees, ())

    def test_number_of_pairs(self):
        for places in (0, 1, 5):
            exponents = (0,) * places
            self.same(Form(101, places, [(exponents, 1)] * 1024).terms, ((exponents, 1024 % 101),))
            self.same(Form(5, places, [(exponents, 0)] * 1024).terms, ())
            self.error(TooLarge, Form, 5, places, [(exponents, 0)] * 1025)
            self.error(TooLarge, Form, 5, places, [("wrong", None)] * 1025)
        grid = list(itertools.product(range(4), repeat=5))
        self.same(Form(5, 5, [(exponents, 1) for exponents in grid]).terms, tuple((key, 1) for key in grid))

    def test_exponents(self):
        self.same(Form(5, 1, [((12,), 1)]).degrees, (12,))
        self.same(Form(5, 2, [((12, 0), 1), ((0, 12), 1)]).degrees, (12, 12))
        for wrong in (-1, 13, 10 ** 400, -10 ** 400) + OTHER_KINDS:
            self.error(OutOfRange, Form, 5, 1, [((wrong,), 1)])
            self.error(OutOfRange, Form, 5, 3, [((0, 0, 0), 1), ((1, wrong, 0), 0)])

    def test_number_of_exponents(self):
        for places, exponents in ((0, (1,)), (1, ()), (1, (1, 1)), (2, (1,)), (5, (1,) * 4), (5, (1,) * 6), (1, (1,) * 50)):
            self.error(WrongPlaces, Form, 5, places, [(exponents, 1)])
            self.error(WrongPlaces, Form, 5, places, [((0,) * places, 1), (list(exponents), 0)])

    def test_wrong_coefficients(self):
        for wrong in (-1, 5, 10 ** 400) + OTHER_KINDS:
            self.assertIs(self.error(NotInField, Form, 5, 1, [((1,), 2), ((0,), wrong)]).value, wrong)
            self.assertIs(self.error(NotInField, Form, 5, 0, [((), wrong)]).value, wrong)

    def test_which_error_comes_ahead(self):
        for wrong in NO_PRIMES:
            self.assertIs(self.error(NotPrime, Form, wrong, 6, [((), 1)] * 1025).value, wrong)
        for wrong in NO_PLACES:
            self.error(OutOfRange, Form, 5, wrong, [((), 9)] * 1025)
        # In a pair: the length, each exponent, then the coefficient; and each pair ahead of the next one.
        self.error(WrongPlaces, Form, 5, 2, [((13,), 9)])
        self.error(OutOfRange, Form, 5, 2, [((0, 13), 9)])
        self.error(OutOfRange, Form, 5, 2, [((0, 13), 1), ((0,), 1)])
        self.same(self.error(NotInField, Form, 5, 2, [((0, 1), 9), ((0,), 1)]).value, 9)
        self.same(self.error(NotInField, Form, 5, 2, [((0, 1), 9), ((0, 13), 8)]).value, 9)

    def test_kinds_of_rows(self):
        form = self.keeps(Form, 5, 2, [[[0, 1], 3], [[2, 0], 1], [[0, 1], 4]])
        self.same(form.terms, (((0, 1), 2), ((2, 0), 1)))
        exponents = [1, 2]
        terms = [[exponents, 3]]
        form = Form(5, 2, terms)
        exponents[0] = 5
        terms.append([[0, 0], 1])
        self.same(form.terms, (((1, 2), 3),))

    def test_arguments_by_name(self):
        self.same(Form(prime=5, places=1, terms=[((1,), 2)]).text(), "5 1 2:1")
        self.same(constant_form(prime=5, places=1, number=2).text(), "5 1 2:0")
        self.same(place_form(prime=5, places=2, at=2).text(), "5 2 1:0.1")
        self.same(form_of(poly=Poly(5, [0, 2])).text(), "5 1 2:1")
        self.same(read_form(text="5 1 2:1").text(), "5 1 2:1")
        form = Form(5, 1, [((1,), 2)])
        self.same(form.at(point=[3]), 1)
        self.same(form.fix(numbers=[3]).text(), "5 0 1:-")
        self.same(form.scale(number=3).text(), "5 1 1:1")
        self.same(form.put_in(polys=[Poly(5, [1, 1])]).text(), "5 2.2")

    def test_things_are_defined_in_their_places(self):
        for name in ("__add__", "__sub__", "__mul__", "__neg__", "__eq__", "at", "fix", "scale", "is_zero", "as_poly",
                     "put_in", "text"):
            self.assertIn(name, vars(Form))
        for thing in (Form, read_form, constant_form, place_form, form_of):
            self.assertEqual(thing.__module__, "sumtalk.forms")


class Operators(Case):
    def test_sums_differences_and_negatives(self):
        for prime in (2, 5, 101):
            for places in (0, 1, 2, 5):
                for a in sample_terms(prime, places):
                    for b in sample_terms(prime, places):
                        left, right = Form(prime, places, a), Form(prime, places, b)
                        minus = [(exponents, -coefficient) for exponents, coefficient in b]
                        with self.subTest((prime, places, a[:3], b[:3])):
                            self.same((left + right).terms, collected(prime, a + b))
                            self.same((left - right).terms, collected(prime, a + minus))
                            self.same((-right).terms, collected(prime, minus))
                            self.same(((left + right).prime, (left + right).places), (prime, places))

    def test_products(self):
        for prime in (2, 5, 101):
            for places in (0, 1, 2, 5):
                for a in sample_terms(prime, places):
                    for b in sample_terms(prime, places):
                        pairs = [(tuple(i + j for i, j in zip(e, f)), c * d) for e, c in a for f, d in b]
                        with self.subTest((prime, places, a[:3], b[:3])):
                            product = Form(prime, places, a) * Form(prime, places, b)
                            self.same(product.terms, collected(prime, pairs))
                            self.same((product.prime, product.places), (prime, places))

    def test_unlike_primes_and_places(self):
        grid = [(exponents, 1) for exponents in itertools.product(range(4), repeat=5)]
        cases = (
            (OtherField, Form(5, 1, []), Form(7, 1, [])),
            (OtherField, Form(5, 1, []), Form(7, 2, [])),
            (OtherField, Form(5, 1, [((12,), 1)]), Form(7, 1, [((12,), 1)])),
            (OtherField, Form(5, 5, grid), Form(7, 4, [])),
            (WrongPlaces, Form(5, 1, []), Form(5, 2, [])),
            (WrongPlaces, Form(5, 0, []), Form(5, 1, [])),
            (WrongPlaces, Form(5, 1, [((12,), 1)]), Form(5, 2, [((12, 12), 1)])),
            (WrongPlaces, Form(5, 5, grid), Form(5, 2, [((i, j), 1) for i in range(10) for j in range(10)])),
        )
        for error, a, b in cases:
            for left, right in ((a, b), (b, a)):
                self.error(error, lambda: left + right)
                self.error(error, lambda: left - right)
                self.error(error, lambda: left * right)

    def test_too_many_terms_of_a_sum(self):
        grid = list(itertools.product(range(6), repeat=4))
        full = Form(5, 4, [(exponents, 2) for exponents in grid[:1024]])
        more = Form(5, 4, [(exponents, 2) for exponents in grid[1:1025]])
        self.error(TooLarge, lambda: full + more)
        self.error(TooLarge, lambda: full - Form(5, 4, [(grid[1024], 1)]))
        self.same(len((full + full).terms), 1024)
        self.same(len((full - more).terms), 2)
        # 1,025 tuples of exponents with one that cancels are 1,024 terms.
        swapped = Form(5, 4, [(grid[0], 3), (grid[1024], 1)])
        self.same(len((full + swapped).terms), 1024)
        self.same(len((full - (-swapped)).terms), 1024)
        self.same((full - full).terms, ())

    def test_too_many_terms_of_a_product(self):
        def spread(places, bounds):
            return Form(5, places, [(e, 1) for e in itertools.product(*[range(bound) for bound in bounds])])
        # 12 times 12 exponents in two places, and 8 in a third one: 1,152 terms from 144 times 8 pairs.
        self.error(TooLarge, lambda: spread(3, (12, 12, 1)) * spread(3, (1, 1, 8)))
        # 11 times 12 and 8 are 1,056, and 11 times 11 and 8 are 968.
        self.error(TooLarge, lambda: spread(3, (11, 12, 1)) * spread(3, (1, 1, 8)))
        self.same(len((spread(3, (11, 11, 1)) * spread(3, (1, 1, 8))).terms), 968)
        self.same(len((spread(5, (4, 4, 4, 1, 1)) * spread(5, (1, 1, 1, 4, 4))).terms), 1024)

    def test_products_that_cancel_within_the_bound(self):
        # (1 + X) times itself over 2 drops the middle term.
        self.same((Form(2, 1, [((0,), 1), ((1,), 1)]) * Form(2, 1, [((0,), 1), ((1,), 1)])).text(), "2 1 1:0 1:2")
        # A square over 2 has as many terms as the form, though many more exponents are met on the way.
        spread = [(k % 7, k // 7 % 7, k * k % 7, k * k * k % 7, 3 * k // 5 % 7) for k in range(100)]
        met = {tuple(i + j for i, j in zip(e, f)) for e in spread for f in spread}
        self.assertGreater(len(met), 1024)
        form = Form(2, 5, [(exponents, 1) for exponents in spread])
        doubled = tuple((tuple(2 * exponent for exponent in exponents), 1) for exponents, _ in form.terms)
        self.same((form * form).terms, doubled)

    def test_exponents_of_products(self):
        self.same((Form(5, 1, [((6,), 2)]) * Form(5, 1, [((6,), 3)])).terms, (((12,), 1),))
        self.error(TooLarge, lambda: Form(5, 1, [((6,), 2)]) * Form(5, 1, [((7,), 3)]))
        self.error(TooLarge, lambda: Form(5, 1, [((12,), 2)]) * Form(5, 1, [((12,), 3)]))
        self.error(TooLarge, lambda: Form(5, 3, [((0, 0, 0), 1), ((0, 0, 1), 2)]) * Form(5, 3, [((0, 0, 12), 3)]))
        self.same((Form(5, 2, [((12, 0), 2)]) * Form(5, 2, [((0, 12), 3)])).terms, (((12, 12), 1),))
        self.same((Form(5, 1, [((12,), 2)]) * Form(5, 1, [])).terms, ())
        self.same((Form(5, 1, []) * Form(5, 1, [((12,), 2)])).terms, ())
        self.same((Form(5, 1, [((12,), 2)]) * Form(5, 1, [((0,), 3)])).terms, (((12,), 1),))

    def test_pairs_of_terms_of_products(self):
        hundred = Form(2, 4, [((i, j, k, 0), 1) for i in range(5) for j in range(5) for k in range(4)])
        one_more = hundred + Form(2, 4, [((0, 0, 0, 1), 1)])
        self.same((len(hundred.terms), len(one_more.terms)), (100, 101))
        # 100 times 100 pairs are within the bound; 101 times 100 are not, though they would leave 200 terms.
        self.same(len((hundred * hundred).terms), 100)
        self.error(TooLarge, lambda: one_more * hundred)
        self.error(TooLarge, lambda: hundred * one_more)
        self.error(TooLarge, lambda: one_more * one_more)
        # 73 times 137 pairs are 10,001, and at most 11 times 11 times 7 terms.
        grid = [((i, j, k), 1) for i in range(7) for j in range(7) for k in range(4)]
        small, large = Form(2, 3, [term for term in grid if max(term[0]) < 5][:73]), Form(2, 3, grid[:137])
        self.same((len(small.terms), len(large.terms)), (73, 137))
        self.error(TooLarge, lambda: small * large)

    def test_products_of_a_full_form(self):
        grid = Form(2, 5, [(exponents, 1) for exponents in itertools.product(range(4), repeat=5)])
        self.same((grid * Form(2, 5, [((0,) * 5, 1)])).terms, grid.terms)
        self.same((grid * Form(2, 5, [])).terms, ())
        self.error(TooLarge, lambda: grid * Form(2, 5, [((0,) * 5, 1), ((1,) * 5, 1)]))
        self.error(TooLarge, lambda: grid * grid)

    def test_equal(self):
        self.same(Form(5, 1, [((1,), 2)]) == Form(5, 1, [((1,), 1), ((1,), 1)]), True)
        self.same(Form(5, 1, [((1,), 2)]) != Form(5, 1, [((1,), 2)]), False)
        self.same(Form(5, 1, [((1,), 2)]) == Form(7, 1, [((1,), 2)]), False)
        self.same(Form(5, 1, []) == Form(7, 1, []), False)
        self.same(Form(5, 1, []) == Form(5, 2, []), False)
        self.same(Form(5, 1, [((1,), 2)]) == Form(5, 1, [((1,), 3)]), False)
        self.same(Form(5, 1, [((1,), 2)]) != Form(5, 1, [((2,), 2)]), True)
        self.same(Form(2, 1, [((1,), 1)]) == Form(2, 1, [((2,), 1)]), False)
        for value in (None, 0, "5 1", (), Poly(5, [])):
            self.same(Form(5, 1, []) == value, False)
            self.same(value == Form(5, 1, []), False)

    def test_operators_keep_their_forms(self):
        a, b = Form(5, 1, [((1,), 2), ((0,), 1)]), Form(5, 1, [((2,), 3)])
        for answer in (a + b, a - b, a * b, -a, a.scale(2), a.fix([1]), a.as_poly(), a.put_in([Poly(5, [1, 1])])):
            self.same((a.text(), b.text()), ("5 1 1:0 2:1", "5 1 3:2"))


class Methods(Case):
    def test_at(self):
        for prime in (2, 5, 101):
            for places in range(6):
                for terms in sample_terms(prime, places):
                    form = Form(prime, places, terms)
                    for point in some_points(prime, places)[:60]:
                        self.same(form.at(point), value_at(prime, terms, point))
        self.same(Form(5, 0, [((), 3)]).at([]), 3)
        self.same(Form(5, 2, [((0, 0), 2)]).at((0, 0)), 2)
        self.same(Form(5, 2, [((0, 1), 3), ((2, 0), 1)]).at([4, 2]), 2)

    def test_fix(self):
        for prime in (2, 5, 101):
            for places in range(6):
                for terms in sample_terms(prime, places):
                    form = Form(prime, places, terms)
                    for many in range(places + 1):
                        for numbers in some_points(prime, many)[:20]:
                            pairs = [(e[many:], value_at(prime, [(e[:many], c)], numbers)) for e, c in terms]
                            fixed = form.fix(numbers)
                            self.same((fixed.prime, fixed.places), (prime, places - many))
                            self.same(fixed.terms, collected(prime, pairs))
        self.same(Form(5, 2, [((1, 1), 1), ((0, 1), 3)]).fix([2]).text(), "5 1")
        self.same(Form(5, 2, [((1, 1), 1), ((0, 1), 3)]).fix([3]).text(), "5 1 1:1")

    def test_too_few_and_too_many_numbers(self):
        for places in range(6):
            form = Form(5, places, [((1,) * places, 1)])
            for many in range(8):
                if many != places:
                    self.error(WrongPlaces, form.at, [0] * many)
                    self.error(WrongPlaces, form.at, ["wrong"] * many)
                if many > places:
                    self.error(WrongPlaces, form.fix, [0] * many)
                    self.error(WrongPlaces, form.fix, ["wrong"] * many)
            self.assertEqual(form.fix([]), form)
            self.same(form.fix([1] * places).terms, (((), 1),))

    def test_wrong_numbers(self):
        for form in (Form(5, 2, []), Form(5, 2, [((1, 1), 1)]), Form(5, 2, [((0, 0), 1)])):
            for wrong in (-1, 5, 10 ** 400) + OTHER_KINDS:
                self.assertIs(self.error(NotInField, form.at, [0, wrong]).value, wrong)
                self.assertIs(self.error(NotInField, form.at, [wrong, -2]).value, wrong)
                self.assertIs(self.error(NotInField, form.fix, [wrong]).value, wrong)
                self.assertIs(self.error(NotInField, form.fix, [1, wrong]).value, wrong)
                self.assertIs(self.error(NotInField, form.scale, wrong).value, wrong)

    def test_rows_are_kept(self):
        form = Form(5, 2, [((1, 1), 1), ((0, 1), 3)])
        self.keeps(form.at, [1, 2])
        self.keeps(form.fix, [1])
        polys = [Poly(5, [1, 1]), Poly(5, [2])]
        ahead = list(polys)
        self.assertEqual(form.put_in(polys), form.put_in(tuple(polys)))
        self.assertTrue(len(polys) == 2 and polys[0] is ahead[0] and polys[1] is ahead[1])

    def test_scale_and_is_zero(self):
        form = Form(5, 2, [((0, 1), 3), ((2, 0), 1)])
        self.same(form.scale(2).text(), "5 2 1:0.1 2:2.0")
        self.same(form.scale(1).text(), form.text())
        self.same(form.scale(0).text(), "5 2")
        self.same(form.scale(0).degrees, (0, 0))
        self.same(form.is_zero(), False)
        self.same(form.scale(0).is_zero(), True)
        self.same(Form(5, 0, []).is_zero(), True)
        self.same(Form(5, 0, [((), 1)]).is_zero(), False)
        self.same(Form(2, 1, [((1,), 1), ((2,), 1)]).is_zero(), False)

    def test_as_poly(self):
        self.same(Form(5, 1, [((3,), 2), ((0,), 4)]).as_poly().coefficients, (4, 0, 0, 2))
        self.same(Form(5, 1, [((12,), 1)]).as_poly().coefficients, (0,) * 12 + (1,))
        self.same(Form(5, 1, []).as_poly().coefficients, ())
        self.same(Form(7, 1, [((0,), 6)]).as_poly().prime, 7)
        for places in (0, 2, 3, 4, 5):
            self.error(WrongPlaces, Form(5, places, []).as_poly)

    def test_form_of(self):
        self.same(form_of(Poly(5, [4, 0, 0, 2])).terms, (((0,), 4), ((3,), 2)))
        self.same(form_of(Poly(7, [])).text(), "7 1")
        self.same(form_of(Poly(5, [1] * 13)).as_poly().coefficients, (1,) * 13)
        self.same(form_of(Poly(5, [0] * 12 + [1])).degrees, (12,))
        self.error(TooLarge, form_of, Poly(5, [0] * 13 + [1]))
        self.error(TooLarge, form_of, Poly(5, [1] * 128))

    def test_put_in(self):
        rows = {2: ([], [1], [0, 1], [1, 0, 1, 1]), 5: ([], [3], [0, 1], [2, 0, 4])}
        for prime in (2, 5):
            for places in (0, 1, 2):
                for terms in sample_terms(prime, places):
                    form = Form(prime, places, terms)
                    for chosen in itertools.product(rows[prime], repeat=places):
                        polys = [Poly(prime, row) for row in chosen]
                        expected = Poly(prime, [])
                        for exponents, coefficient in terms:
                            part = Poly(prime, [coefficient])
                            for poly, exponent in zip(polys, exponents):
                                for _ in range(exponent):
                                    part = part * poly
                            expected = expected + part
                        self.same(form.put_in(polys).coefficients, expected.coefficients)
                        self.same(form.put_in(polys).prime, prime)

    def test_put_in_is_formal(self):
        self.same(Form(2, 1, [((2,), 1)]).put_in([Poly(2, [0, 1])]).coefficients, (0, 0, 1))
        self.same(Form(5, 0, [((), 3)]).put_in([]).text(), "5 3")
        self.same(Form(5, 0, []).put_in(()).text(), "5 -")
        self.same(Form(5, 2, [((0, 0), 2), ((1, 0), 1)]).put_in([Poly(5, []), Poly(5, [1])]).text(), "5 2")

    def test_put_in_bound(self):
        twelfth = Form(5, 2, [((12, 1), 1)])
        tenth = Poly(5, [0] * 10 + [1])
        self.same(twelfth.put_in([tenth, Poly(5, [0] * 7 + [1])]).degree, 127)
        self.error(TooLarge, twelfth.put_in, [tenth, Poly(5, [0] * 8 + [1])])
        self.same(Form(5, 1, [((1,), 2)]).put_in([Poly(5, [1] * 128)]).coefficients, (2,) * 128)
        self.error(TooLarge, Form(5, 1, [((2,), 1)]).put_in, [Poly(5, [0] * 64 + [1])])
        self.error(TooLarge, Form(5, 5, [((12,) * 5, 1)]).put_in, [Poly(5, [1] * 128)] * 5)
        # One term beyond the bound is enough, wherever it stands.
        for exponents in ((0, 0), (12, 12)):
            form = Form(5, 2, [((12, 1), 1), ((exponents[0], 0), 1), ((0, exponents[1]), 1)])
            self.error(TooLarge, form.put_in, [tenth, Poly(5, [0] * 8 + [1])])

    def test_put_in_bound_for_a_term_that_vanishes(self):
        form = Form(5, 2, [((12, 1), 1)])
        self.error(TooLarge, form.put_in, [Poly(5, [0] * 11 + [1]), Poly(5, [])])
        self.same(form.put_in([Poly(5, [0] * 10 + [1]), Poly(5, [])]).text(), "5 -")
        self.same(form.put_in([Poly(5, []), Poly(5, [0] * 127 + [1])]).text(), "5 -")
        self.same(Form(5, 2, []).put_in([Poly(5, [1] * 128), Poly(5, [1] * 128)]).text(), "5 -")
        # No power of a place is beyond the bound here, only the sum over the places is.
        zero, tenth, first = Poly(5, []), Poly(5, [0] * 10 + [1]), Poly(5, [0, 1])
        self.same(Form(5, 3, [((1, 12, 7), 1)]).put_in([zero, tenth, first]).text(), "5 -")
        self.error(TooLarge, Form(5, 3, [((1, 12, 8), 1)]).put_in, [zero, tenth, first])
        self.error(TooLarge, Form(5, 3, [((1, 12, 12), 1)]).put_in, [zero, tenth, first])
        self.error(TooLarge, Form(5, 3, [((12, 8, 1), 1)]).put_in, [tenth, first, zero])

    def test_put_in_wrong_polys(self):
        form = Form(5, 2, [((12, 12), 1)])
        long_5, long_7 = Poly(5, [1] * 128), Poly(7, [1] * 128)
        for row in ([], [long_5], [long_5] * 3, [long_7], [long_7] * 6):
            self.error(WrongPlaces, form.put_in, row)
        self.error(WrongPlaces, Form(5, 0, []).put_in, [long_5])
        self.error(OtherField, form.put_in, [long_7, long_5])
        self.error(OtherField, form.put_in, [long_5, long_7])
        self.error(OtherField, Form(5, 2, []).put_in, [Poly(5, []), Poly(7, [])])
        self.error(TooLarge, form.put_in, [long_5, long_5])

    def test_constant_form(self):
        for places in range(6):
            self.same(constant_form(5, places, 3).terms, (((0,) * places, 3),))
            self.same(constant_form(5, places, 0).terms, ())
            self.same((constant_form(5, places, 0).prime, constant_form(5, places, 0).places), (5, places))
        for wrong in NO_PRIMES:
            self.assertIs(self.error(NotPrime, constant_form, wrong, 6, 9).value, wrong)
        for wrong in NO_PLACES:
            self.error(OutOfRange, constant_form, 5, wrong, 9)
        for wrong in (-1, 5, 10 ** 400) + OTHER_KINDS:
            self.assertIs(self.error(NotInField, constant_form, 5, 2, wrong).value, wrong)
            self.assertIs(self.error(NotInField, constant_form, 5, 0, wrong).value, wrong)

    def test_place_form(self):
        for places in range(1, 6):
            for at in range(1, places + 1):
                exponents = tuple(int(place == at) for place in range(1, places + 1))
                form = place_form(7, places, at)
                self.same((form.prime, form.places, form.terms), (7, places, ((exponents, 1),)))
            for wrong in (0, -1, places + 1, 10 ** 400) + OTHER_KINDS:
                self.error(OutOfRange, place_form, 7, places, wrong)
        for at in (0, 1, -1):
            self.error(OutOfRange, place_form, 7, 0, at)
        for wrong in NO_PRIMES:
            self.assertIs(self.error(NotPrime, place_form, wrong, 6, 9).value, wrong)
        for wrong in NO_PLACES:
            self.error(OutOfRange, place_form, 5, wrong, 1)


class Texts(Case):
    def test_examples_of_the_document(self):
        self.same(Form(5, 2, [((0, 1), 3), ((2, 0), 1)]).text(), "5 2 3:0.1 1:2.0")
        self.same(Form(5, 2, []).text(), "5 2")
        self.same(Form(5, 0, [((), 3)]).text(), "5 0 3:-")
        self.same(Form(5, 0, []).text(), "5 0")

    def test_read_back(self):
        for prime in (2, 5, 101):
            for places in range(6):
                for terms in sample_terms(prime, places):
                    form = Form(prime, places, terms)
                    again = read_form(form.text())
                    self.same((again.prime, again.places, again.terms), (prime, places, collected(prime, terms)))
        self.same(read_form("101 2 100:0.12 1:12.0").terms, (((0, 12), 100), ((12, 0), 1)))

    def test_read_back_of_the_longest_text(self):
        grid = list(itertools.product(range(9, 13), repeat=5))
        form = Form(101, 5, [(exponents, 100) for exponents in grid])
        self.same(read_form(form.text()).terms, form.terms)

    def test_bad_texts(self):
        for text in ("", "5", "5 ", " 5 2", "5 2 ", "5  2", "5 2\n", "5\n2", "5 2\n3:0.1", "4 2", "1 2", "103 2", "05 2",
                     "5 02", "5 6", "5 -1", "5 6 1:0.0.0.0.0.0", "5 a", "a 2", "5 - 2", "5 2 -", "5 2 3", "5 2 3:",
                     "5 2 :0.1", "5 2 3:0", "5 2 3:0.1.0", "5 2 3:-", "5 2 0:0.1", "5 2 5:0.1", "5 2 -1:0.1",
                     "5 2 03:0.1", "5 2 3:00.1", "5 2 3:0.13", "5 2 3:0.-1", "5 2 3:0.1 3:0.1", "5 2 1:2.0 3:0.1",
                     "5 2 3:0.1  1:2.0", "5 2 3:0.1 1:2.0 ", "5 2 3:0.1:1", "5 2 3::0.1", "5 2 3.0.1", "5 2 3:0,1",
                     "5 2 3 :0.1", "5 2 3: 0.1", "5 2 3:0.1 0:2.0", "5 0 3:0", "5 0 3:", "5 0 3", "5 0 3:- 2:-",
                     "5 1 3:-", "5 0 0:-", "5 2 | 3:0.1", "5 1 3:1.", "5 1 \u0663:1", "5 1 3:" + "1" * 301,
                     "5 1 " + "1" * 301 + ":1", "1" * 301 + " 1", "5 " + "1" * 301):
            with self.subTest(text[:20]):
                self.error(BadText, read_form, text)

    def test_too_many_terms(self):
        grid = list(itertools.product(range(6), repeat=4))
        words = ["1:" + ".".join(str(exponent) for exponent in exponents) for exponents in grid]
        self.same(len(read_form("5 4 " + " ".join(words[:1024])).terms), 1024)
        self.error(BadText, read_form, "5 4 " + " ".join(words[:1025]))
        self.error(BadText, read_form, "5 4 " + " ".join(words * 3))

    def test_no_texts(self):
        for value in NO_TEXTS + (Form(5, 1, []),):
            self.error(BadText, read_form, value)
