"""Points [22] to [27] and the entry sumtalk/fillings.py."""

import itertools

from sumtalk import fillings
from sumtalk.errors import NotInField, NotPrime, OutOfRange, TooLarge, WrongPlaces
from sumtalk.fillings import (corner_at, corner_sum, corner_weight, corner_weights, corners, filling, filling_at, fold,
                              index_of, is_low, round_poly, sum_over, table_of, tail_sum)
from sumtalk.forms import Form
from helper import Case, OTHER_KINDS

NO_PRIMES = (4, 1, 0, -5, 103, 10 ** 6000) + OTHER_KINDS
NO_PLACES = (-1, 6, 10 ** 400, -10 ** 400) + OTHER_KINDS
NO_NUMBERS = (-1, 5, 10 ** 400, -10 ** 400) + OTHER_KINDS
NO_BITS = (-1, 2, 10 ** 400, -10 ** 400) + OTHER_KINDS
WRONG_LENGTHS = (0, 3, 5, 6, 7, 9, 12, 15, 17, 24, 31, 33, 63, 64, 128)


def sample_forms(prime, places):
    """Several forms with powers of all kinds."""
    grid = list(itertools.product((0, 1, 2, 5), repeat=places))
    return [
        Form(prime, places, []),
        Form(prime, places, [((0,) * places, 1)]),
        Form(prime, places, [((12,) * places, prime - 1)]),
        Form(prime, places, [(exponents, (5 * at + 1) % prime) for at, exponents in enumerate(grid)]),
        Form(prime, places, [(exponents, (at * at + 2) % prime) for at, exponents in enumerate(grid[::-3])]),
    ]


def sample_tables(prime, places):
    """Several tables for so many places."""
    length = 2 ** places
    return [
        [0] * length,
        [1] * length,
        [(3 * at + 1) % prime for at in range(length)],
        [(at * at * at + 7 * at + 2) % prime for at in range(length)],
        [int(at == length - 1) for at in range(length)],
    ]


def some_points(prime, places):
    """All points of small fields, some of large ones."""
    numbers = range(prime) if prime ** places <= 130 else sorted({0, 1, prime - 1, prime // 2})
    return list(itertools.product(numbers, repeat=places))[:150]


class Corners(Case):
    def test_corners_in_order(self):
        for places in range(6):
            self.same(corners(places), list(itertools.product((0, 1), repeat=places)))
        self.same(corners(places=0), [()])
        self.same(corners(2), [(0, 0), (0, 1), (1, 0), (1, 1)])

    def test_corner_at_and_index_of_each_other(self):
        for places in range(6):
            for at, corner in enumerate(itertools.product((0, 1), repeat=places)):
                self.same(corner_at(places, at), corner)
                self.same(index_of(corner), at)
                self.same(index_of(list(corner)), at)
        self.same(corner_at(places=3, at=6), (1, 1, 0))
        self.same(index_of(corner=[1, 1, 0]), 6)
        self.same(index_of(()), 0)
        self.keeps(index_of, [1, 0, 1])

    def test_wrong_places(self):
        for wrong in NO_PLACES:
            self.error(OutOfRange, corners, wrong)
            self.error(OutOfRange, corner_at, wrong, 0)

    def test_wrong_index(self):
        for places in range(6):
            for wrong in (-1, 2 ** places, 10 ** 400, -10 ** 400) + OTHER_KINDS:
                self.error(OutOfRange, corner_at, places, wrong)

    def test_wrong_corner(self):
        self.error(TooLarge, index_of, [0] * 6)
        self.error(TooLarge, index_of, ["wrong"] * 6)
        for wrong in NO_BITS:
            self.error(OutOfRange, index_of, [wrong])
            self.error(OutOfRange, index_of, [0, 1, 0, 1, wrong])

    def test_new_lists(self):
        self.new_list(corners, 0)
        self.new_list(corners, 3)


class Sums(Case):
    def test_sum_over(self):
        for prime in (2, 5, 101):
            for places in range(4):
                for form in sample_forms(prime, places):
                    points = some_points(prime, places)[::3]
                    for row in ([], points, points + points[:2], points[:1] * 7):
                        expected = sum(form.at(point) for point in row) % prime
                        self.same(sum_over(form, row), expected)
                        self.same(sum_over(form, [list(point) for point in row]), expected)
        form = Form(5, 1, [((1,), 2)])
        self.same(sum_over(form=form, points=[[1], (1,), [3]]), 0)
        self.same(sum_over(form, ()), 0)
        self.keeps(lambda points: sum_over(form, points), [[1], [2]])

    def test_number_of_points(self):
        form = Form(5, 1, [((0,), 1)])
        self.same(sum_over(form, [[0]] * 1024), 1024 % 5)
        self.error(TooLarge, sum_over, form, [[0]] * 1025)
        self.error(TooLarge, sum_over, form, [["wrong"] * 3] * 1025)

    def test_wrong_points(self):
        form = Form(5, 2, [((0, 1), 1)])
        for wrong in ([], [1], [1, 2, 3], ["wrong"]):
            self.error(WrongPlaces, sum_over, form, [[0, 0], wrong, [9, 9]])
        for wrong in NO_NUMBERS:
            self.assertIs(self.error(NotInField, sum_over, form, [[0, 0], [0, wrong], [1]]).value, wrong)
            self.assertIs(self.error(NotInField, sum_over, form, [[wrong, -2], [1]]).value, wrong)

    def test_corner_sum(self):
        for prime in (2, 5, 101):
            for places in range(6):
                for form in sample_forms(prime, places):
                    expected = sum(form.at(point) for point in itertools.product((0, 1), repeat=places)) % prime
                    self.same(corner_sum(form), expected)
        self.same(corner_sum(form=Form(5, 0, [((), 3)])), 3)
        self.same(corner_sum(Form(5, 5, [])), 0)
        self.same(corner_sum(Form(101, 5, [((0,) * 5, 1)])), 32)
        self.same(corner_sum(Form(2, 1, [((0,), 1)])), 0)

    def test_tail_sum(self):
        for prime in (2, 5, 101):
            for places in range(4):
                for form in sample_forms(prime, places):
                    for many in range(places + 1):
                        for coins in some_points(prime, many)[::7]:
                            rest = itertools.product((0, 1), repeat=places - many)
                            expected = sum(form.at(coins + corner) for corner in rest) % prime
                            self.same(tail_sum(form, coins), expected)
                    self.same(tail_sum(form, []), corner_sum(form))
        form = Form(5, 2, [((1, 1), 1)])
        self.same(tail_sum(form=form, coins=[3]), 3)
        self.keeps(lambda coins: tail_sum(form, coins), [3])

    def test_round_poly(self):
        for prime in (2, 3, 5, 101):
            for places in range(1, 4):
                for form in sample_forms(prime, places):
                    for many in range(places):
                        for coins in some_points(prime, many)[::7]:
                            self.is_round_poly(form, coins, round_poly(form, coins))

    def is_round_poly(self, form, coins, poly):
        """Compare with the formal telling of point [24]."""
        row = [0] * 13
        for exponents, coefficient in form.terms:
            for coin, exponent in zip(coins, exponents):
                coefficient *= coin ** exponent
            for exponent in exponents[len(coins) + 1:]:
                coefficient *= 2 if exponent == 0 else 1
            row[exponents[len(coins)]] += coefficient
        self.same(poly.padded(13), [item % form.prime for item in row])
        self.same(poly.prime, form.prime)
        self.same(poly.ends(), tail_sum(form, coins))

    def test_round_poly_is_formal(self):
        self.same(round_poly(form=Form(2, 1, [((1,), 1), ((2,), 1)]), coins=[]).coefficients, (0, 1, 1))
        self.same(round_poly(Form(2, 2, [((3, 0), 1)]), []).coefficients, ())
        self.same(round_poly(Form(5, 1, []), ()).coefficients, ())
        self.same(round_poly(Form(5, 1, [((12,), 1)]), []).degree, 12)
        form = Form(5, 3, [((1, 1, 1), 1)])
        self.keeps(lambda coins: round_poly(form, coins), [3, 2])

    def test_too_many_coins(self):
        for places in range(6):
            form = Form(5, places, [((1,) * places, 1)])
            for many in range(8):
                for coins in ([1] * many, ["wrong"] * many):
                    if many > places:
                        self.error(WrongPlaces, tail_sum, form, coins)
                    if many >= places:
                        self.error(WrongPlaces, round_poly, form, coins)

    def test_wrong_coins(self):
        form = Form(5, 3, [])
        for call in (tail_sum, round_poly):
            for wrong in NO_NUMBERS:
                self.assertIs(self.error(NotInField, call, form, [wrong, -2]).value, wrong)
                self.assertIs(self.error(NotInField, call, form, [4, wrong]).value, wrong)


class Weights(Case):
    def test_weights(self):
        for prime in (2, 5, 101):
            for places in range(6):
                for point in some_points(prime, places)[::5]:
                    weights = []
                    for corner in itertools.product((0, 1), repeat=places):
                        weight = 1
                        for bit, number in zip(corner, point):
                            weight *= number if bit else 1 - number
                        weights.append(weight % prime)
                        self.same(corner_weight(prime, corner, point), weight % prime)
                    self.same(corner_weights(prime, point), weights)
        self.same(corner_weight(prime=5, corner=[1, 0], point=(3, 4)), 1)
        self.same(corner_weights(prime=5, point=[3]), [3, 3])

    def test_weights_at_corners(self):
        for places in range(6):
            for corner in itertools.product((0, 1), repeat=places):
                for other in itertools.product((0, 1), repeat=places):
                    self.same(corner_weight(7, corner, other), int(corner == other))

    def test_no_places(self):
        for prime in (2, 5, 101):
            self.same(corner_weight(prime, [], []), 1)
            self.same(corner_weight(prime, (), ()), 1)
            self.same(corner_weights(prime, []), [1])

    def test_rows(self):
        self.keeps(corner_weight, 5, [1, 0], [3, 4])
        self.keeps(corner_weights, 5, [3, 4])
        self.new_list(corner_weights, 5, [3, 4])
        self.new_list(corner_weights, 5, [])

    def test_wrong_arguments(self):
        for wrong in NO_PRIMES:
            self.assertIs(self.error(NotPrime, corner_weight, wrong, [0] * 6, [9]).value, wrong)
            self.assertIs(self.error(NotPrime, corner_weights, wrong, [0] * 6).value, wrong)
        self.error(TooLarge, corner_weight, 5, [0] * 6, [0] * 6)
        self.error(TooLarge, corner_weight, 5, ["wrong"] * 6, [])
        self.error(TooLarge, corner_weights, 5, [0] * 6)
        self.error(TooLarge, corner_weights, 5, ["wrong"] * 6)
        for wrong in NO_BITS:
            self.error(OutOfRange, corner_weight, 5, [0, wrong], [9])
        for places, many in ((0, 1), (1, 0), (1, 2), (2, 1), (5, 4), (5, 6)):
            self.error(WrongPlaces, corner_weight, 5, [0] * places, [0] * many)
            self.error(WrongPlaces, corner_weight, 5, [1] * places, ["wrong"] * many)
        for wrong in NO_NUMBERS:
            self.assertIs(self.error(NotInField, corner_weight, 5, [0, 1], [1, wrong]).value, wrong)
            self.assertIs(self.error(NotInField, corner_weight, 5, [0, 1], [wrong, -2]).value, wrong)
            self.assertIs(self.error(NotInField, corner_weights, 5, [1, wrong, -2]).value, wrong)


class Fillings(Case):
    def test_filling(self):
        for prime in (2, 3, 5, 101):
            for places in range(6):
                for table in sample_tables(prime, places):
                    with self.subTest((prime, table)):
                        form = filling(prime, table)
                        self.same((form.prime, form.places), (prime, places))
                        self.assertTrue(all(degree <= 1 for degree in form.degrees))
                        values = [form.at(corner) for corner in itertools.product((0, 1), repeat=places)]
                        self.same(values, table)
                        self.same(table_of(form), table)

    def test_small_fillings(self):
        self.same(filling(5, [3]).text(), "5 0 3:-")
        self.same(filling(5, [0]).text(), "5 0")
        self.same(filling(5, (3, 4)).text(), "5 1 3:0 1:1")
        self.same(filling(prime=2, table=[1, 0]).text(), "2 1 1:0 1:1")
        self.same(filling(5, [0, 0, 0, 1]).text(), "5 2 1:1.1")
        self.same(filling(5, [0, 1, 0, 0]).text(), "5 2 1:0.1 4:1.1")

    def test_example_of_the_document(self):
        self.same(filling(5, [1, 2, 3, 0]).text(), "5 2 1:0.0 1:0.1 2:1.0 1:1.1")

    def test_table_of(self):
        for prime in (2, 5, 101):
            for places in range(6):
                for form in sample_forms(prime, places):
                    values = [form.at(corner) for corner in itertools.product((0, 1), repeat=places)]
                    self.same(table_of(form), values)
        self.same(table_of(form=Form(5, 0, [((), 3)])), [3])
        self.new_list(table_of, Form(5, 1, [((1,), 1)]))

    def test_filling_at(self):
        for prime in (2, 5, 101):
            for places in range(6):
                for table in sample_tables(prime, places):
                    for point in some_points(prime, places)[::5]:
                        self.same(filling_at(prime, table, point), filling(prime, table).at(point))
        self.same(filling_at(prime=5, table=[3], point=[]), 3)
        self.same(filling_at(5, [1, 2, 3, 0], (0, 1)), 2)
        self.keeps(filling_at, 5, [1, 2, 3, 0], [4, 2])

    def test_fold(self):
        for prime in (2, 5, 101):
            for places in range(1, 6):
                for table in sample_tables(prime, places):
                    half = len(table) // 2
                    for number in sorted({0, 1, prime - 1, prime // 2}):
                        expected = [((1 - number) * table[i] + number * table[i + half]) % prime for i in range(half)]
                        self.same(fold(prime, table, number), expected)
                        self.assertEqual(filling(prime, expected), filling(prime, table).fix([number]))
        self.same(fold(prime=5, table=[1, 2, 3, 0], number=0), [1, 2])
        self.same(fold(5, (1, 2, 3, 0), 1), [3, 0])
        self.keeps(fold, 5, [1, 2, 3, 0], 3)
        self.new_list(fold, 5, [1, 2, 3, 0], 3)

    def test_fold_until_one_is_left(self):
        for prime in (2, 3, 5, 101):
            for places in range(6):
                for table in sample_tables(prime, places):
                    for point in some_points(prime, places)[::11]:
                        left = table
                        for number in point:
                            left = fold(prime, left, number)
                        self.same(left, [filling(prime, table).at(point)])

    def test_wrong_lengths_of_tables(self):
        for length in WRONG_LENGTHS:
            for table in ([0] * length, ["wrong"] * length):
                self.error(WrongPlaces, filling, 5, table)
                self.error(WrongPlaces, filling_at, 5, table, ["wrong"])
                self.error(WrongPlaces, fold, 5, table, "wrong")
        self.error(WrongPlaces, fold, 5, [3], 2)
        self.error(WrongPlaces, fold, 5, ["wrong"], 2)
        self.error(WrongPlaces, fold, 5, (3,), "wrong")

    def test_wrong_items_of_tables(self):
        for wrong in NO_NUMBERS:
            self.assertIs(self.error(NotInField, filling, 5, [1, wrong]).value, wrong)
            self.assertIs(self.error(NotInField, filling, 5, [wrong]).value, wrong)
            self.assertIs(self.error(NotInField, filling, 5, [0] * 30 + [wrong, -2]).value, wrong)
            self.assertIs(self.error(NotInField, filling_at, 5, [1, wrong], []).value, wrong)
            self.assertIs(self.error(NotInField, fold, 5, [1, wrong], -2).value, wrong)

    def test_wrong_points_and_numbers(self):
        for places in range(6):
            for many in range(8):
                if many != places:
                    self.error(WrongPlaces, filling_at, 5, [0] * 2 ** places, [0] * many)
                    self.error(WrongPlaces, filling_at, 5, [0] * 2 ** places, ["wrong"] * many)
        for wrong in NO_NUMBERS:
            self.assertIs(self.error(NotInField, filling_at, 5, [0] * 4, [1, wrong]).value, wrong)
            self.assertIs(self.error(NotInField, filling_at, 5, [0] * 4, [wrong, -2]).value, wrong)
            self.assertIs(self.error(NotInField, fold, 5, [0] * 4, wrong).value, wrong)

    def test_wrong_prime(self):
        for wrong in NO_PRIMES:
            for call, more in ((filling, ()), (filling_at, ([9],)), (fold, (9,))):
                self.assertIs(self.error(NotPrime, call, wrong, [0] * 3, *more).value, wrong)

    def test_is_low(self):
        for terms, low in (([], True), ([((0, 0), 1)], True), ([((1, 1), 1), ((0, 1), 2)], True),
                           ([((2, 0), 1)], False), ([((0, 2), 1), ((1, 0), 1)], False), ([((12, 12), 1)], False)):
            self.same(is_low(Form(5, 2, terms)), low)
        self.same(is_low(form=Form(5, 0, [((), 3)])), True)
        # Low is meant formally: over 2 the square of a place has the place's values.
        self.same(is_low(Form(2, 1, [((2,), 1)])), False)
        self.same(is_low(Form(2, 1, [((2,), 1), ((2,), 1)])), True)

    def test_rows_are_kept(self):
        self.keeps(filling, 5, [1, 2, 3, 0])
        table = [1, 2]
        form = filling(5, table)
        table[0] = 4
        self.same(form.text(), "5 1 1:0 1:1")

    def test_functions_are_defined_in_their_file(self):
        for name in ("corners", "corner_at", "index_of", "sum_over", "corner_sum", "tail_sum", "round_poly",
                     "corner_weight", "corner_weights", "filling", "table_of", "filling_at", "fold", "is_low"):
            self.assertEqual(getattr(fillings, name).__module__, "sumtalk.fillings")
