"""Points [13], [14] and [16] and the entry sumtalk/points.py."""

import itertools

from sumtalk import points
from sumtalk.errors import NotInField, NotPrime, OtherField, OutOfRange, Repeated, TooLarge
from sumtalk.points import agreements, all_polys, all_rows, from_roots, roots_of, same_values, through, through_values
from sumtalk.polys import Poly
from helper import Case, OTHER_KINDS

NO_PRIMES = (4, 1, 0, -5, 103, 10 ** 6000) + OTHER_KINDS


class Roots(Case):
    def test_roots(self):
        for prime in (2, 3, 5, 7):
            for row in itertools.product(range(min(prime, 3)), repeat=4):
                with self.subTest((prime, row)):
                    poly = Poly(prime, row)
                    self.same(roots_of(poly), [number for number in range(prime) if poly.at(number) == 0])
        self.same(roots_of(poly=Poly(5, [4, 1])), [1])

    def test_roots_of_zero_and_of_constants(self):
        for prime in (2, 5, 101):
            self.same(roots_of(Poly(prime, [])), list(range(prime)))
            self.same(roots_of(Poly(prime, [1])), [])
            self.same(roots_of(Poly(prime, [prime - 1])), [])

    def test_all_numbers_are_roots_of_some_other_polynomials(self):
        self.same(roots_of(Poly(2, [0, 1, 1])), [0, 1])
        self.same(roots_of(Poly(3, [0, 2, 0, 1])), [0, 1, 2])

    def test_repeated_roots_are_listed_once(self):
        self.same(roots_of(Poly(5, [0, 0, 1])), [0])
        self.same(roots_of(from_roots(7, [3, 1, 3, 3, 6])), [1, 3, 6])

    def test_new_lists(self):
        self.new_list(roots_of, Poly(5, [0, 1]))

    def test_from_roots(self):
        self.same(from_roots(5, []).coefficients, (1,))
        self.same(from_roots(5, [0]).coefficients, (0, 1))
        self.same(from_roots(5, [2]).coefficients, (3, 1))
        self.same(from_roots(5, (2, 2)).coefficients, (4, 1, 1))
        self.same(from_roots(prime=2, numbers=[0, 1]).coefficients, (0, 1, 1))
        self.same(from_roots(7, [1, 2, 3]).text(), "7 1.4.1.1")

    def test_from_roots_of_many_numbers(self):
        poly = from_roots(101, list(range(101)) + [0] * 26)
        self.same((poly.degree, poly.coefficients[-1]), (127, 1))
        self.same(from_roots(3, [0] * 127).coefficients, (0,) * 127 + (1,))
        self.same(from_roots(2, [1] * 127).degree, 127)
        self.error(TooLarge, from_roots, 3, [0] * 128)
        self.error(TooLarge, from_roots, 3, ["wrong"] * 128)

    def test_from_roots_with_wrong_arguments(self):
        for wrong in NO_PRIMES:
            self.assertIs(self.error(NotPrime, from_roots, wrong, [0] * 128).value, wrong)
        for wrong in (-1, 5, 10 ** 400) + OTHER_KINDS:
            self.assertIs(self.error(NotInField, from_roots, 5, [1, wrong, -2]).value, wrong)
        self.keeps(from_roots, 5, [1, 2])


class Agreements(Case):
    def test_agreements(self):
        for prime in (2, 3, 5):
            rows = list(itertools.product(range(2), repeat=4))
            for a in rows:
                for b in rows:
                    first, second = Poly(prime, a), Poly(prime, b)
                    expected = [number for number in range(prime) if first.at(number) == second.at(number)]
                    with self.subTest((prime, a, b)):
                        self.same(agreements(first, second), expected)
                        self.same(same_values(first, second), len(expected) == prime)

    def test_equal_unlike_and_reduced(self):
        poly = Poly(5, [1, 2, 0, 0, 0, 3, 4])
        self.same(agreements(poly, poly), [0, 1, 2, 3, 4])
        self.same(same_values(poly, poly), True)
        self.same(same_values(poly, poly.reduced()), True)
        self.same(same_values(poly=Poly(2, [0, 1]), other=Poly(2, [0, 0, 1])), True)
        self.same(agreements(poly=Poly(5, [0, 1]), other=Poly(5, [0, 0, 1])), [0, 1])
        self.same(same_values(Poly(5, [0, 1]), Poly(5, [0, 0, 1])), False)
        self.same(agreements(Poly(5, [1]), Poly(5, [2])), [])
        self.same(same_values(Poly(5, [1]), Poly(5, [2])), False)
        self.new_list(agreements, poly, poly)

    def test_unlike_primes(self):
        for call in (agreements, same_values):
            self.error(OtherField, call, Poly(5, [1]), Poly(7, [1]))
            self.error(OtherField, call, Poly(5, []), Poly(2, []))


class Through(Case):
    def test_through_all_values(self):
        for prime in (2, 3, 5):
            for size in range(0, min(prime, 3) + 1):
                for firsts in itertools.permutations(range(prime), size):
                    for seconds in itertools.product(range(prime), repeat=size):
                        pairs = list(zip(firsts, seconds))
                        with self.subTest((prime, pairs)):
                            poly = through(prime, pairs)
                            self.assertLess(poly.degree, max(size, 1))
                            self.same([(x, poly.at(x)) for x in firsts], pairs)

    def test_none(self):
        self.same(through(5, []).coefficients, ())
        self.same(through(5, ()).prime, 5)
        self.same(through(prime=5, pairs=[(2, 3)]).coefficients, (3,))

    def test_comes_back_in_any_order(self):
        poly = Poly(101, [5, 0, 99, 3, 7])
        pairs = [(number, poly.at(number)) for number in (90, 3, 17, 100, 0, 55)]
        for order in (pairs, pairs[::-1], sorted(pairs)):
            self.assertEqual(through(101, order), poly)

    def test_as_many_pairs_as_numbers(self):
        for prime in (2, 7, 101):
            poly = through(prime, [(x, x * x * x % prime) for x in range(prime)])
            self.same([poly.at(x) for x in range(prime)], [x ** 3 % prime for x in range(prime)])
            self.assertLess(poly.degree, prime)
        self.same(through(101, [(x, x) for x in range(101)]).coefficients, (0, 1))

    def test_kinds_of_rows(self):
        self.keeps(through, 5, [[1, 2], [3, 4], [0, 0]])

    def test_repeated(self):
        for pairs in ([(1, 2), (1, 2)], [(1, 2), (1, 3)], [(0, 0), (1, 1), (2, 0), (0, 0)]):
            self.error(Repeated, through, 5, pairs)
        self.error(Repeated, through, 2, [(0, 0), (1, 0), (0, 0)])
        self.error(Repeated, through, 2, [(0, 0)] * 101)
        self.error(Repeated, through, 101, [(x, 0) for x in range(100)] + [(5, 0)])

    def test_too_many(self):
        self.error(TooLarge, through, 101, [(0, 0)] * 102)
        self.error(TooLarge, through, 101, [("wrong", None)] * 102)

    def test_wrong_parts(self):
        for wrong in (-1, 5, 10 ** 400) + OTHER_KINDS:
            self.assertIs(self.error(NotInField, through, 5, [(1, 1), (1, 2), (wrong, "second")]).value, wrong)
            self.assertIs(self.error(NotInField, through, 5, [(1, 1), (1, wrong), (-2, -3)]).value, wrong)
            self.assertIs(self.error(NotInField, through, 2, [(0, 0)] * 100 + [(1, wrong)]).value, wrong)

    def test_wrong_prime(self):
        for wrong in NO_PRIMES:
            self.assertIs(self.error(NotPrime, through, wrong, [(0, 0)] * 102).value, wrong)
            self.assertIs(self.error(NotPrime, through_values, wrong, [0] * 102).value, wrong)

    def test_through_values(self):
        self.same(through_values(5, []).coefficients, ())
        self.same(through_values(5, [3]).coefficients, (3,))
        self.same(through_values(5, [3, 0]).coefficients, (3, 2))
        self.same(through_values(prime=5, numbers=(0, 1, 4)).coefficients, (0, 0, 1))
        for prime in (2, 3, 5):
            for numbers in itertools.product(range(prime), repeat=min(prime, 4)):
                poly = through_values(prime, numbers)
                self.same(tuple(poly.at(x) for x in range(len(numbers))), numbers)
                self.assertLess(poly.degree, len(numbers))
        self.keeps(through_values, 5, [1, 2, 0])

    def test_through_values_bound(self):
        for prime in (2, 5, 101):
            self.same(through_values(prime, [1] * prime).coefficients, (1,))
            self.error(TooLarge, through_values, prime, [1] * (prime + 1))
            self.error(TooLarge, through_values, prime, ["wrong"] * (prime + 1))
        for wrong in (-1, 5) + OTHER_KINDS:
            self.assertIs(self.error(NotInField, through_values, 5, [0, wrong, -2]).value, wrong)


class AllRows(Case):
    def test_rows(self):
        for prime, many in ((2, 0), (2, 1), (2, 3), (3, 2), (5, 3), (7, 1), (101, 1), (101, 0)):
            with self.subTest((prime, many)):
                self.same(all_rows(prime, many), list(itertools.product(range(prime), repeat=many)))
        self.same(all_rows(prime=2, many=2), [(0, 0), (0, 1), (1, 0), (1, 1)])
        self.same(all_rows(5, 0), [()])

    def test_bound(self):
        rows = all_rows(2, 10)
        self.same(rows, list(itertools.product((0, 1), repeat=10)))
        self.assertEqual(len(all_rows(31, 2)), 961)
        for prime, many in ((2, 11), (2, 128), (3, 7), (37, 2), (101, 2), (101, 128)):
            self.error(TooLarge, all_rows, prime, many)

    def test_which_error_comes_ahead(self):
        for wrong in NO_PRIMES:
            self.assertIs(self.error(NotPrime, all_rows, wrong, -1).value, wrong)
            self.assertIs(self.error(NotPrime, all_polys, wrong, -1).value, wrong)
        for wrong in (-1, 129, 10 ** 400) + OTHER_KINDS:
            self.error(OutOfRange, all_rows, 2, wrong)
            self.error(OutOfRange, all_rows, 101, wrong)
        for wrong in (-1, 128, 10 ** 400) + OTHER_KINDS:
            self.error(OutOfRange, all_polys, 2, wrong)
            self.error(OutOfRange, all_polys, 101, wrong)

    def test_new_lists(self):
        self.new_list(all_rows, 3, 2)
        self.new_list(all_rows, 3, 0)
        self.new_list(all_polys, 3, 1)

    def test_polys(self):
        for prime, degree in ((2, 0), (2, 2), (3, 1), (5, 1), (7, 0), (101, 0)):
            found = all_polys(prime, degree)
            with self.subTest((prime, degree)):
                self.assertIs(type(found), list)
                rows = [tuple(poly.padded(degree + 1)) for poly in found]
                self.same(rows, list(itertools.product(range(prime), repeat=degree + 1)))
                self.assertTrue(all(poly.prime == prime for poly in found))
        self.same([poly.text() for poly in all_polys(prime=2, degree=1)], ["2 -", "2 0.1", "2 1", "2 1.1"])

    def test_polys_bound(self):
        self.assertEqual(len(all_polys(2, 9)), 1024)
        self.assertEqual(len(all_polys(31, 1)), 961)
        for prime, degree in ((2, 10), (2, 127), (3, 6), (37, 1), (101, 1), (101, 127)):
            self.error(TooLarge, all_polys, prime, degree)

    def test_functions_are_defined_in_their_file(self):
        for name in ("roots_of", "from_roots", "agreements", "same_values", "through", "through_values", "all_rows",
                     "all_polys"):
            self.assertEqual(getattr(points, name).__module__, "sumtalk.points")
