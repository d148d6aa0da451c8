"""Point [9] and the entry sumtalk/shares.py."""

from fractions import Fraction

from sumtalk.errors import BadText, OutOfRange, TooLarge
from sumtalk.shares import Share, either_of, product_of, read_share
from helper import Case, NO_TEXTS, OTHER_KINDS

LONGEST = 10 ** 300 - 1
FIRST_TOO_LONG = 10 ** 300
PAIRS = [(top, bottom) for top in range(0, 8) for bottom in range(1, 8)]
AT_MOST_ONE = [(top, bottom) for top, bottom in PAIRS if top <= bottom]


class Shares(Case):
    def is_share(self, share, fraction):
        self.assertIsInstance(share, Share)
        self.same((share.top, share.bottom), (fraction.numerator, fraction.denominator))

    def test_lowest_terms(self):
        for top, bottom in PAIRS + [(100, 250), (10 ** 200, 10 ** 201)]:
            with self.subTest((top, bottom)):
                self.is_share(Share(top, bottom), Fraction(top, bottom))
        self.same((Share(2, 6).top, Share(2, 6).bottom), (1, 3))

    def test_zero_and_above_one(self):
        self.same((Share(0).top, Share(0).bottom), (0, 1))
        self.same((Share(0, 7).top, Share(0, 7).bottom), (0, 1))
        self.same((Share(7).top, Share(7).bottom), (7, 1))
        self.same((Share(9, 6).top, Share(9, 6).bottom), (3, 2))

    def test_arguments_by_name(self):
        self.same(Share(top=3, bottom=6).text(), "1/2")
        self.same(Share(top=3).text(), "3/1")
        self.same(Share(1, 2).either(other=Share(1, 3)).text(), "2/3")
        self.same(Share(1, 2).at_most(other=Share(1, 3)), False)
        self.same(read_share(text="1/2").text(), "1/2")
        self.same(product_of(shares=[Share(2)]).text(), "2/1")
        self.same(either_of(shares=[Share(1, 2)]).text(), "1/2")

    def test_wrong_top(self):
        for wrong in (-1, -FIRST_TOO_LONG, -10 ** 6000) + OTHER_KINDS:
            for bottom in (1, 0, FIRST_TOO_LONG, None):
                self.error(OutOfRange, Share, wrong, bottom)
            self.error(OutOfRange, Share, wrong)

    def test_wrong_bottom(self):
        for wrong in (0, -1, -FIRST_TOO_LONG, -10 ** 6000) + OTHER_KINDS:
            self.error(OutOfRange, Share, 1, wrong)
            self.error(OutOfRange, Share, 0, wrong)

    def test_figures(self):
        self.same(Share(LONGEST).top, LONGEST)
        self.same(Share(1, LONGEST).bottom, LONGEST)
        self.same(Share(LONGEST, LONGEST).text(), "1/1")
        for too_long in (FIRST_TOO_LONG, FIRST_TOO_LONG + 1, 10 ** 6000):
            self.error(TooLarge, Share, too_long)
            self.error(TooLarge, Share, 1, too_long)
            self.error(TooLarge, Share, 0, too_long)
            # The bound is on the parts as passed, not on the lowest terms.
            self.error(TooLarge, Share, too_long, too_long)

    def test_top_is_checked_completely_ahead_of_bottom(self):
        for wrong in (0, -1, None, True, FIRST_TOO_LONG):
            self.error(TooLarge, Share, FIRST_TOO_LONG, wrong)
            self.error(OutOfRange, Share, -1, wrong)

    def test_sums_and_products(self):
        for a in PAIRS:
            for b in PAIRS[::3]:
                with self.subTest((a, b)):
                    self.is_share(Share(*a) + Share(*b), Fraction(*a) + Fraction(*b))
                    self.is_share(Share(*a) * Share(*b), Fraction(*a) * Fraction(*b))

    def test_differences(self):
        for a in PAIRS:
            for b in PAIRS[::3]:
                with self.subTest((a, b)):
                    if Fraction(*a) >= Fraction(*b):
                        self.is_share(Share(*a) - Share(*b), Fraction(*a) - Fraction(*b))
                    else:
                        self.error(OutOfRange, lambda: Share(*a) - Share(*b))
        self.same((Share(1, 3) - Share(2, 6)).text(), "0/1")

    def test_operators_keep_their_shares(self):
        a, b = Share(3, 4), Share(1, 6)
        for answer in (a + b, a - b, a * b, a.rest(), a.either(b), a.at_most(b)):
            self.same((a.text(), b.text()), ("3/4", "1/6"))

    def test_rest(self):
        for pair in PAIRS:
            with self.subTest(pair):
                if Fraction(*pair) <= 1:
                    self.is_share(Share(*pair).rest(), 1 - Fraction(*pair))
                else:
                    self.error(OutOfRange, Share(*pair).rest)
        self.error(OutOfRange, Share(LONGEST, LONGEST - 1).rest)

    def test_either(self):
        for a in AT_MOST_ONE:
            for b in AT_MOST_ONE:
                with self.subTest((a, b)):
                    expected = Fraction(*a) + Fraction(*b) - Fraction(*a) * Fraction(*b)
                    self.is_share(Share(*a).either(Share(*b)), expected)

    def test_either_above_one(self):
        for fitting in (Share(0), Share(1, 2), Share(1)):
            self.error(OutOfRange, Share(3, 2).either, fitting)
            self.error(OutOfRange, fitting.either, Share(3, 2))
        self.error(OutOfRange, Share(3, 2).either, Share(2))

    def test_at_most(self):
        for a in PAIRS:
            for b in PAIRS:
                with self.subTest((a, b)):
                    self.same(Share(*a).at_most(Share(*b)), Fraction(*a) <= Fraction(*b))

    def test_equal(self):
        self.same(Share(1, 2) == Share(2, 4), True)
        self.same(Share(1, 2) != Share(2, 4), False)
        self.same(Share(0) == Share(0, 5), True)
        self.same(Share(1, 2) == Share(1, 3), False)
        self.same(Share(1, 2) == Share(3, 2), False)
        self.same(Share(1, 2) != Share(2, 1), True)
        for value in (1, "1/1", None, True, (1, 1), [1, 1], Fraction(1)):
            self.same(Share(1) == value, False)
            self.same(value == Share(1), False)

    def test_text(self):
        self.same(Share(0).text(), "0/1")
        self.same(Share(4, 6).text(), "2/3")
        self.same(Share(12, 1).text(), "12/1")

    def test_beyond_the_bound_of_the_figures(self):
        wide = Share(LONGEST) * Share(LONGEST) * Share(LONGEST)
        self.is_share(wide, Fraction(LONGEST ** 3))
        self.assertEqual(wide.text(), str(LONGEST ** 3) + "/1")
        thin = Share(1, LONGEST) * Share(1, LONGEST - 1) * Share(1, LONGEST - 2)
        expected = Fraction(1, LONGEST) * Fraction(1, LONGEST - 1) * Fraction(1, LONGEST - 2)
        self.is_share(thin, expected)
        self.is_share(thin.rest(), 1 - expected)
        self.is_share(Share(1, LONGEST) + Share(1, LONGEST - 1), Fraction(1, LONGEST) + Fraction(1, LONGEST - 1))
        self.is_share(Share(1, LONGEST - 1) - Share(1, LONGEST), Fraction(1, LONGEST - 1) - Fraction(1, LONGEST))
        self.same(Share(1, LONGEST).at_most(Share(1, LONGEST - 1)), True)
        self.same(wide == Share(LONGEST) * Share(LONGEST) * Share(LONGEST), True)
        halves = Share(1, LONGEST).either(Share(1, LONGEST - 1))
        self.is_share(halves, 1 - (1 - Fraction(1, LONGEST)) * (1 - Fraction(1, LONGEST - 1)))
        self.error(BadText, read_share, wide.text())
        self.error(BadText, read_share, thin.text())


class ReadShare(Case):
    def test_reads_what_text_returns(self):
        for top, bottom in PAIRS + [(LONGEST, 2), (2, LONGEST), (LONGEST, LONGEST - 1)]:
            share = read_share(Share(top, bottom).text())
            self.assertEqual(share, Share(top, bottom))
            self.same((share.top, share.bottom), (Share(top, bottom).top, Share(top, bottom).bottom))

    def test_bad_texts(self):
        for text in ("", "/", "1", "1/", "/1", "1/0", "0/0", "0/2", "2/4", "3/3", "10/5", "1/2/3", "1//2", "01/2",
                     "1/02", "00/1", "+1/2", "1/+2", "-1/2", "1/-2", " 1/2", "1/2 ", "1 /2", "1/ 2", "1/2\n", "\n1/2",
                     "1\n/2", "1.5/2", "a/b", "1:2", "1_0/3", "-/1", "\u0661/2"):
            with self.subTest(text):
                self.error(BadText, read_share, text)

    def test_figures(self):
        self.error(BadText, read_share, "1" + "0" * 300 + "/1")
        self.error(BadText, read_share, "1/1" + "0" * 300)
        self.same(read_share("1" + "0" * 299 + "/1").top, 10 ** 299)
        self.same(read_share("1/1" + "0" * 299).bottom, 10 ** 299)
        self.error(BadText, read_share, "1" * 20000 + "/1")

    def test_no_texts(self):
        for value in NO_TEXTS + (Share(1, 2),):
            self.error(BadText, read_share, value)


class Rows(Case):
    def test_product_of(self):
        self.same(product_of([]).text(), "1/1")
        self.same(product_of(()).text(), "1/1")
        self.same(product_of([Share(2, 3)]).text(), "2/3")
        self.same(product_of([Share(2, 3), Share(3, 4), Share(5)]).text(), "5/2")
        self.same(product_of((Share(2, 3), Share(0), Share(5))).text(), "0/1")

    def test_either_of(self):
        self.same(either_of([]).text(), "0/1")
        self.same(either_of(()).text(), "0/1")
        self.same(either_of([Share(2, 5)]).text(), "2/5")
        self.same(either_of([Share(1, 2), Share(1, 3), Share(1, 4)]).text(), "3/4")
        self.same(either_of((Share(1, 2), Share(1))).text(), "1/1")
        self.same(either_of([Share(0), Share(0)]).text(), "0/1")

    def test_either_of_above_one(self):
        for shares in ([Share(3, 2)], [Share(1, 2), Share(2)], [Share(1), Share(3, 2), Share(1, 2)],
                       (Share(2), Share(2))):
            self.error(OutOfRange, either_of, shares)

    def test_rows_are_kept(self):
        for call in (product_of, either_of):
            shares = [Share(1, 2), Share(1, 3)]
            ahead = list(shares)
            answer = call(shares)
            self.assertEqual(len(shares), 2)
            self.assertTrue(all(now is then for now, then in zip(shares, ahead)))
            self.assertEqual(call(tuple(shares)), answer)

    def test_example_of_the_document(self):
        self.same(Share(1, 2).either(Share(2, 6)).text(), "2/3")

    def test_methods_are_defined_in_the_class(self):
        for name in ("__add__", "__mul__", "__sub__", "__eq__", "rest", "either", "at_most", "text"):
            self.assertIn(name, vars(Share))
        for thing in (Share, read_share, product_of, either_of):
            self.assertEqual(thing.__module__, "sumtalk.shares")
