"""Points [10] to [12] and [15] and the entry sumtalk/polys.py."""

from sumtalk import polys
from sumtalk.errors import BadText, DivisionByZero, NotInField, NotPrime, OtherField, OutOfRange, TooLarge
from sumtalk.polys import Poly, constant, read_poly
from helper import Case, NO_TEXTS, OTHER_KINDS

ROWS = ([], [1], [0, 1], [4, 0, 3], [2, 2, 2, 2], [1, 0, 0, 0, 4], [0, 0, 0, 1], [3, 1, 4, 1, 2, 4, 0, 1])


def rows_over(prime):
    """The rows, each item modulo the prime, with some zeros at the end."""
    return [[item % prime for item in row] for row in ROWS]


def value_at(prime, row, number):
    return sum(item * number ** power for power, item in enumerate(row)) % prime


def cut(row):
    """The tuple without zeros at the end."""
    row = list(row)
    while row and row[-1] == 0:
        row.pop()
    return tuple(row)


class Making(Case):
    def test_zeros_at_the_end_are_dropped(self):
        for row, left in (([], ()), ([0], ()), ([0, 0, 0], ()), ([1], (1,)), ([1, 0], (1,)), ([0, 1, 0, 0], (0, 1)),
                          ([3, 0, 1], (3, 0, 1)), ([0] * 128, ()), ([2] + [0] * 127, (2,))):
            with self.subTest(row):
                self.same(Poly(5, row).coefficients, left)
                self.same(Poly(5, tuple(row)).coefficients, left)
                self.same(Poly(5, row).prime, 5)

    def test_number_of_coefficients(self):
        self.same(polys.MAX_COEFFICIENTS, 128)
        self.same(Poly(2, [1] * 128).coefficients, (1,) * 128)
        for row in ([1] * 129, [0] * 129, [1] + [0] * 128, ["wrong"] * 129, [1] * 1000):
            self.error(TooLarge, Poly, 5, row)

    def test_wrong_prime(self):
        for wrong in (4, 1, 0, -5, 103, 10007, 10 ** 6000) + OTHER_KINDS:
            self.assertIs(self.error(NotPrime, Poly, wrong, [0] * 129).value, wrong)
            self.assertIs(self.error(NotPrime, constant, wrong, None).value, wrong)

    def test_wrong_coefficients(self):
        for wrong in (-1, 5, 6, 10 ** 400, -10 ** 400) + OTHER_KINDS:
            self.assertIs(self.error(NotInField, Poly, 5, [1, wrong, "later"]).value, wrong)
            self.assertIs(self.error(NotInField, Poly, 5, [wrong] + [0] * 127).value, wrong)
        self.same(self.error(NotInField, Poly, 2, [0, 1, 2, 3]).value, 2)

    def test_rows_are_kept_and_not_looked_at_later(self):
        self.keeps(Poly, 5, [1, 2, 0])
        row = [1, 2, 0]
        poly = Poly(5, row)
        row[0] = 4
        row.append(3)
        self.same(poly.coefficients, (1, 2))

    def test_arguments_by_name(self):
        self.same(Poly(prime=5, coefficients=[1, 2]).text(), "5 1.2")
        self.same(constant(prime=5, number=3).text(), "5 3")
        self.same(read_poly(text="5 3").text(), "5 3")
        poly = Poly(5, [1, 2])
        self.same(poly.at(number=2), 0)
        self.same(poly.fits(bound=1), True)
        self.same(poly.scale(number=2).text(), "5 2.4")
        self.same(poly.divide(other=poly)[0].text(), "5 1")
        self.same(poly.padded(many=3), [1, 2, 0])

    def test_degree(self):
        for row, degree in (([], 0), ([0, 0], 0), ([3], 0), ([0, 1], 1), ([0, 1, 0], 1), ([1] * 128, 127)):
            self.same(Poly(5, row).degree, degree)

    def test_iterating(self):
        self.same(list(Poly(5, [3, 0, 1, 0])), [3, 0, 1])
        self.same(list(Poly(5, [0])), [])
        self.same(tuple(Poly(5, [0, 4])), (0, 4))
        poly = Poly(5, [1, 2])
        self.same([(a, b) for a in poly for b in poly], [(1, 1), (1, 2), (2, 1), (2, 2)])

    def test_constant(self):
        self.same(constant(5, 0).coefficients, ())
        self.same(constant(5, 4).coefficients, (4,))
        for wrong in (-1, 5) + OTHER_KINDS:
            self.assertIs(self.error(NotInField, constant, 5, wrong).value, wrong)

    def test_things_are_defined_in_their_places(self):
        for name in ("__add__", "__sub__", "__mul__", "__neg__", "__eq__", "__iter__", "degree", "at", "ends", "is_zero",
                     "fits", "scale", "divide", "reduced", "padded", "text"):
            self.assertIn(name, vars(Poly))
        for thing in (Poly, read_poly, constant):
            self.assertEqual(thing.__module__, "sumtalk.polys")


class Operators(Case):
    def test_sums_and_differences(self):
        for prime in (2, 3, 5, 101):
            for a in rows_over(prime):
                for b in rows_over(prime):
                    size = max(len(a), len(b))
                    long_a, long_b = a + [0] * (size - len(a)), b + [0] * (size - len(b))
                    sums = cut((x + y) % prime for x, y in zip(long_a, long_b))
                    differences = cut((x - y) % prime for x, y in zip(long_a, long_b))
                    with self.subTest((prime, a, b)):
                        self.same((Poly(prime, a) + Poly(prime, b)).coefficients, sums)
                        self.same((Poly(prime, a) - Poly(prime, b)).coefficients, differences)

    def test_products(self):
        for prime in (2, 3, 5, 101):
            for a in rows_over(prime):
                for b in rows_over(prime):
                    row = [0] * (len(a) + len(b))
                    for i, x in enumerate(a):
                        for j, y in enumerate(b):
                            row[i + j] += x * y
                    with self.subTest((prime, a, b)):
                        product = Poly(prime, a) * Poly(prime, b)
                        self.same(product.coefficients, cut(item % prime for item in row))
                        self.same(product.prime, prime)

    def test_negatives(self):
        for prime in (2, 3, 5, 101):
            for a in rows_over(prime):
                self.same((-Poly(prime, a)).coefficients, cut(-x % prime for x in a))

    def test_what_cancels_is_dropped(self):
        self.same((Poly(5, [1, 2, 3]) + Poly(5, [0, 3, 2])).coefficients, (1,))
        self.same((Poly(5, [1, 2, 3]) - Poly(5, [1, 2, 3])).coefficients, ())

    def test_products_of_many_coefficients(self):
        self.same((Poly(2, [1] * 128) * Poly(2, [1])).coefficients, (1,) * 128)
        self.same((Poly(3, [0] * 63 + [1]) * Poly(3, [0] * 64 + [2])).coefficients, (0,) * 127 + (2,))
        for a, b in (([0] * 64 + [1], [0] * 64 + [1]), ([1] * 128, [0, 1]), ([1] * 128, [1] * 128)):
            self.error(TooLarge, lambda: Poly(5, a) * Poly(5, b))
            self.error(TooLarge, lambda: Poly(5, b) * Poly(5, a))

    def test_products_of_rows_with_zeros_at_the_end(self):
        self.same((Poly(5, [1] + [0] * 127) * Poly(5, [2] + [0] * 127)).coefficients, (2,))
        self.same((Poly(5, [0] * 128) * Poly(5, [1] * 128)).coefficients, ())
        self.same((Poly(5, [1] * 128) * Poly(5, [])).coefficients, ())
        self.same((Poly(5, []) * Poly(5, [])).coefficients, ())

    def test_unlike_primes(self):
        long_5, long_7 = Poly(5, [1] * 128), Poly(7, [1] * 128)
        for a, b in ((Poly(5, [1]), Poly(7, [1])), (Poly(5, []), Poly(7, [])), (Poly(2, [1]), Poly(3, [])),
                     (long_5, long_7)):
            self.error(OtherField, lambda: a + b)
            self.error(OtherField, lambda: a - b)
            self.error(OtherField, lambda: a * b)
            self.error(OtherField, lambda: b * a)

    def test_equal(self):
        self.same(Poly(5, [1, 2]) == Poly(5, (1, 2, 0)), True)
        self.same(Poly(5, [1, 2]) != Poly(5, (1, 2, 0)), False)
        self.same(Poly(5, []) == Poly(5, [0]), True)
        self.same(Poly(5, [1, 2]) == Poly(5, [2, 1]), False)
        self.same(Poly(5, [1, 2]) != Poly(5, [1]), True)
        self.same(Poly(5, [1]) == Poly(7, [1]), False)
        self.same(Poly(5, []) == Poly(7, []), False)
        for value in (1, None, "5 1", (1,), [1]):
            self.same(Poly(5, [1]) == value, False)
            self.same(value == Poly(5, [1]), False)

    def test_equal_is_formal(self):
        self.same(Poly(2, [0, 1]) == Poly(2, [0, 0, 1]), False)
        self.same(Poly(3, [0, 1]) == Poly(3, [0, 0, 0, 1]), False)
        self.same(Poly(2, [0, 1, 1]).is_zero(), False)

    def test_operators_keep_their_polynomials(self):
        a, b = Poly(5, [1, 2, 3]), Poly(5, [4, 1])
        for answer in (a + b, a - b, a * b, -a, a.scale(2), a.divide(b), a.reduced(), a.padded(5)):
            self.same((a.coefficients, b.coefficients), ((1, 2, 3), (4, 1)))


class Methods(Case):
    def test_at(self):
        for prime in (2, 3, 5, 101):
            for row in rows_over(prime):
                for number in range(prime):
                    with self.subTest((prime, row, number)):
                        self.same(Poly(prime, row).at(number), value_at(prime, row, number))
        self.same(Poly(5, [3]).at(0), 3)
        self.same(Poly(5, []).at(4), 0)

    def test_ends(self):
        for prime in (2, 3, 5, 101):
            for row in rows_over(prime):
                expected = (value_at(prime, row, 0) + value_at(prime, row, 1)) % prime
                self.same(Poly(prime, row).ends(), expected)
        self.same(Poly(2, [1]).ends(), 0)
        self.same(Poly(5, []).ends(), 0)

    def test_wrong_numbers(self):
        for prime in (2, 5, 101):
            for row in ([], [1], [1, 1]):
                for wrong in (-1, prime, 10 ** 400) + OTHER_KINDS:
                    self.assertIs(self.error(NotInField, Poly(prime, row).at, wrong).value, wrong)
                    self.assertIs(self.error(NotInField, Poly(prime, row).scale, wrong).value, wrong)

    def test_is_zero(self):
        self.same(Poly(5, []).is_zero(), True)
        self.same(Poly(5, [0, 0]).is_zero(), True)
        self.same(Poly(5, [1]).is_zero(), False)
        self.same(Poly(5, [0, 1]).is_zero(), False)

    def test_fits(self):
        for row, degree in (([], 0), ([4], 0), ([0, 1], 1), ([1, 2, 3, 0], 2), ([1] * 128, 127)):
            for bound in (-10 ** 400, -2, -1, 0, 1, 2, 3, 126, 127, 128, 10 ** 400):
                with self.subTest((degree, bound < 1000)):
                    self.same(Poly(5, row).fits(bound), degree <= bound)

    def test_scale(self):
        for prime in (2, 3, 5, 101):
            for row in rows_over(prime):
                for number in {0, 1, prime - 1}:
                    self.same(Poly(prime, row).scale(number).coefficients, cut(x * number % prime for x in row))
        self.same(Poly(5, [1, 2]).scale(3).prime, 5)

    def test_divide(self):
        for prime in (2, 3, 5, 101):
            for a in rows_over(prime):
                for b in rows_over(prime):
                    divisor = Poly(prime, b)
                    if divisor.is_zero():
                        continue
                    with self.subTest((prime, a, b)):
                        answer = Poly(prime, a).divide(divisor)
                        self.assertIs(type(answer), tuple)
                        quotient, rest = answer
                        self.assertEqual(quotient * divisor + rest, Poly(prime, a))
                        self.assertTrue(rest.is_zero() or rest.degree < divisor.degree)

    def test_divide_by_a_constant(self):
        quotient, rest = Poly(5, [1, 2, 3]).divide(Poly(5, [2]))
        self.same((quotient.coefficients, rest.coefficients), ((3, 1, 4), ()))
        quotient, rest = Poly(5, []).divide(Poly(5, [2]))
        self.same((quotient.coefficients, rest.coefficients), ((), ()))

    def test_divide_by_a_higher_degree(self):
        for row in ([], [3], [1, 2], [1, 2, 3]):
            quotient, rest = Poly(5, row).divide(Poly(5, [0, 0, 0, 2]))
            self.same((quotient.coefficients, rest.coefficients), ((), tuple(row)))

    def test_divide_long_polynomials(self):
        quotient, rest = Poly(3, [1] * 128).divide(Poly(3, [1] * 64))
        self.same((quotient.coefficients, rest.coefficients), ((1,) + (0,) * 63 + (1,), ()))
        quotient, rest = Poly(3, [1] * 128).divide(Poly(3, [1] * 128))
        self.same((quotient.coefficients, rest.coefficients), ((1,), ()))

    def test_divide_by_zero(self):
        for row in ([], [1], [1, 2, 3]):
            self.error(DivisionByZero, Poly(5, row).divide, Poly(5, []))
            self.error(DivisionByZero, Poly(5, row).divide, Poly(5, [0]))
            self.error(OtherField, Poly(5, row).divide, Poly(7, []))
            self.error(OtherField, Poly(5, row).divide, Poly(7, [1, 2]))

    def test_reduced(self):
        for prime in (2, 3, 5, 7):
            for row in rows_over(prime) + [[1] * 128, [0] * prime + [1], [0] * (prime - 1) + [1], [1] * (2 * prime)]:
                with self.subTest((prime, row)):
                    poly = Poly(prime, row)
                    reduced = poly.reduced()
                    self.assertLess(reduced.degree, prime)
                    self.same(reduced.prime, prime)
                    for number in range(prime):
                        self.same(reduced.at(number), poly.at(number))

    def test_reduced_powers(self):
        for prime, power, left in ((2, 0, 0), (2, 1, 1), (2, 2, 1), (2, 127, 1), (3, 2, 2), (3, 3, 1), (3, 4, 2),
                                   (5, 4, 4), (5, 5, 1), (5, 8, 4), (5, 9, 1), (7, 127, 1), (101, 100, 100),
                                   (101, 101, 1), (101, 127, 27)):
            with self.subTest((prime, power)):
                self.same(Poly(prime, [0] * power + [1]).reduced().coefficients, (0,) * left + (1,))

    def test_reduced_to_zero(self):
        self.same(Poly(2, [0, 1, 1]).reduced().coefficients, ())
        self.same(Poly(5, [0, 4, 0, 0, 0, 1]).reduced().coefficients, ())
        self.same(Poly(5, []).reduced().coefficients, ())

    def test_padded(self):
        self.same(Poly(5, [1, 2]).padded(2), [1, 2])
        self.same(Poly(5, [1, 2]).padded(4), [1, 2, 0, 0])
        self.same(Poly(5, []).padded(0), [])
        self.same(Poly(5, []).padded(2), [0, 0])
        self.same(Poly(5, [1] * 128).padded(128), [1] * 128)
        self.same(Poly(5, [3]).padded(128), [3] + [0] * 127)
        self.new_list(Poly(5, [1, 2]).padded, 2)

    def test_padded_to_too_few_places(self):
        self.error(OutOfRange, Poly(5, [1, 2]).padded, 1)
        self.error(OutOfRange, Poly(5, [0, 2]).padded, 0)
        self.error(OutOfRange, Poly(5, [1] * 128).padded, 127)

    def test_padded_out_of_range(self):
        for wrong in (-1, 129, 10 ** 400, -10 ** 400) + OTHER_KINDS:
            self.error(OutOfRange, Poly(5, []).padded, wrong)
            self.error(OutOfRange, Poly(5, [1]).padded, wrong)


class Texts(Case):
    def test_text(self):
        self.same(Poly(5, [3, 0, 1]).text(), "5 3.0.1")
        self.same(Poly(5, []).text(), "5 -")
        self.same(Poly(5, [0]).text(), "5 -")
        self.same(Poly(101, [100, 0, 99, 0]).text(), "101 100.0.99")

    def test_read_back(self):
        for prime in (2, 3, 5, 101):
            for row in rows_over(prime) + [[prime - 1] * 128]:
                with self.subTest((prime, row)):
                    poly = read_poly(Poly(prime, row).text())
                    self.same((poly.prime, poly.coefficients), (prime, cut(row)))

    def test_bad_texts(self):
        for text in ("", "5", "5 ", " 5 -", "5  -", "5 - ", "5 -\n", "\n5 -", "5\n-", "5 3.0", "5 0", "5 3.0.0", "5 5",
                     "5 3.5", "5 -1", "5 +1", "5 03", "05 3", "5 3.01", "4 1", "1 0", "0 -", "103 1", "101 101", "10007 1",
                     "- 1", "5 1 2", "5 1.", "5 .1", "5 1..2", "5 1,2", "5 a", "a 1", "5:1", "5 --", "5 1 ", "+5 1",
                     "-5 1", "5\t1", "5 " + "1." * 128 + "1", "5 " + "0." * 128 + "1", "1" * 301 + " 1",
                     "5 " + "1" * 301, "5 " + "1." * 10000 + "1", "5 \u0661"):
            with self.subTest(text[:20]):
                self.error(BadText, read_poly, text)

    def test_no_texts(self):
        for value in NO_TEXTS + (Poly(5, [1]),):
            self.error(BadText, read_poly, value)
