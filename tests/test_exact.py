"""Points [59] to [63] and the entry sumtalk/exact.py."""

import itertools
from fractions import Fraction

from sumtalk import exact
from sumtalk.claims import Claim
from sumtalk.counts import rule_share
from sumtalk.errors import (NotFormula, NotInField, NotPrime, OutOfRange, Repeated, TooLarge, WrongPlaces)
from sumtalk.exact import (are_enough, best_lie, count_journals, from_residues, judge_count, least_primes, lie_share,
                           residues)
from sumtalk.forms import Form
from sumtalk.formulas import counting_claim, models, occurrences, read_formula
from sumtalk.journals import Journal
from sumtalk.judging import judge
from sumtalk.liars import Liar, best_paper
from sumtalk.shares import Share
from sumtalk.tellers import Honest, talk
from helper import Case, HUGE, OTHER_KINDS

GREAT = [101, 97, 89, 83, 79, 73, 71, 67]
PRIMES_TO_101 = [n for n in range(2, 102) if all(n % d for d in range(2, n))]
OR = read_formula("or x1 x2")
AND_NOT = read_formula("and x1 not x2")
TALL = read_formula("or and x1 x4 xor x1 not x3")
FORMULAS = [(read_formula(text), places) for text, places in (
    ("true", 0), ("false", 0), ("true", 5), ("false", 3), ("x1", 1), ("not x1", 1), ("x2", 2), ("x1", 5),
    ("or x1 x2", 2), ("and x1 not x2", 2), ("and x1 not x2", 4), ("or and x1 x4 xor x1 not x3", 4),
    ("xor x1 xor x2 xor x3 xor x4 x5", 5), ("and x1 and x2 and x3 and x4 x5", 5), ("or x1 not x1", 3),
    ("and x2 and x2 x2", 2))]
PRIME_ROWS = ([], [2], [3], [5], [101], [2, 3], [3, 2], [2, 3, 5], [5, 7], [7, 101, 2], [2, 3, 5, 7, 11, 13, 17, 19],
              GREAT)


def fraction(share):
    return Fraction(share.top, share.bottom)


def product(numbers):
    result = 1
    for number in numbers:
        result *= number
    return result


def true_parts(formula, places, primes, count=None, shift=1):
    """The honest journals on the claims that the count makes over the primes."""
    parts = []
    for prime in primes:
        claim = counting_claim(formula, prime, places, count=count)
        parts.append(talk(claim, Honest(claim), [(shift + at) % prime for at in range(places)]))
    return parts


def refusals(case, call):
    """What every call that begins with a formula and places refuses, all else being wrong, too."""
    for value in ("x1", ["true"], ("not",), None, ("place", 6), ("place", True)):
        case.error(NotFormula, call, value, 6)
    for places in (-1, 6) + HUGE + OTHER_KINDS:
        case.error(OutOfRange, call, OR, places)


class Primes(Case):
    def test_least_primes(self):
        for places, expected in enumerate(([2], [2, 3], [2, 3], [2, 3, 5], [2, 3, 5], [2, 3, 5, 7])):
            self.same(least_primes(places=places), expected)
            self.assertGreater(product(expected), 2 ** places)
            self.assertLessEqual(product(expected[:-1]), 2 ** places)
        self.no_range(0, 5, least_primes)
        self.new_list(least_primes, 3)

    def test_are_enough(self):
        for places in range(6):
            for primes in PRIME_ROWS:
                self.same(self.keeps(are_enough, primes, places), product(primes) > 2 ** places)
        # A product that is exactly 2 to the power n, and those just above it and below it.
        for primes, places, expected in (([], 0, False), ([2], 1, False), ([2], 0, True), ([3], 1, True),
                                         ([3], 2, False), ([5], 2, True), ([7], 3, False), ([2, 5], 3, True),
                                         ([13], 4, False), ([5, 3], 4, False), ([17], 4, True), ([31], 5, False),
                                         ([11, 3], 5, True), ([], 5, False), ([37], 5, True)):
            self.same(are_enough(primes=primes, places=places), expected)
        self.same(are_enough(GREAT, 5), True)

    def test_rows_of_primes(self):
        calls = [lambda primes: are_enough(primes, 6), lambda primes: residues(5, primes),
                 lambda primes: from_residues(primes, ["wrong"] * 20),
                 lambda primes: count_journals(TALL, 1, primes, ["wrong"] * 20),
                 lambda primes: lie_share(TALL, 1, primes, -1), lambda primes: best_lie(TALL, 1, primes)]
        for call in calls:
            self.no_prime(lambda prime: call([2, prime, 9]))
            self.error(TooLarge, call, [2] * 9)
            self.error(TooLarge, call, ["wrong"] * 9)
            self.error(TooLarge, call, tuple(PRIMES_TO_101[:9]))
            self.error(Repeated, call, [2, 3, 2])
            self.error(Repeated, call, (101, 101))
            # Repeated primes are told behind every bad one.
            self.same(self.error(NotPrime, call, [3, 3, 4, 6]).value, 4)
        self.no_range(0, 5, lambda places: are_enough([3], places))

    def test_residues(self):
        for primes in PRIME_ROWS:
            for count in (0, 1, 32, 33, 100, 10 ** 299 + 123, 10 ** 300 - 1, 10 ** 300):
                found = self.keeps(residues, count, primes)
                self.same(found, [count % prime for prime in primes])
        self.same(residues(count=10 ** 300, primes=[2, 7]), [0, pow(10, 300, 7)])
        self.new_list(residues, 5, [2, 3])
        self.same(residues(10 ** 300, []), [])
        for count in (-1, 10 ** 300 + 1) + HUGE + OTHER_KINDS:
            self.error(OutOfRange, residues, count, [4])

    def test_from_residues(self):
        for primes in ([], [2], [101], [2, 3], [3, 2], [5, 2, 7], [2, 3, 5, 7]):
            for count in range(product(primes)):
                self.same(self.keeps(from_residues, primes, [count % prime for prime in primes]), count)

    def test_from_residues_of_eight_great_primes(self):
        whole = product(GREAT)
        self.same(len(str(whole)), 16)
        for count in (0, 1, whole - 1, whole // 2, 123456789012345, whole - 67):
            for primes in (GREAT, GREAT[::-1]):
                self.same(from_residues(primes=primes, remainders=residues(count, primes)), count)
        count = 10 ** 300 - 7
        self.same(from_residues(GREAT, residues(count, GREAT)), count % whole)

    def test_wrong_remainders(self):
        for remainders in ([], [1], [1, 1, 1], ["wrong"] * 3, [0] * 9):
            self.error(WrongPlaces, from_residues, [2, 3], remainders)
        self.error(WrongPlaces, from_residues, [], [0])
        self.no_number(5, lambda number: from_residues([7, 5, 2], [6, number, 1]))
        # Each one is a number of its own prime's field.
        self.same(self.error(NotInField, from_residues, [3, 7, 2], [2, 6, 2]).value, 2)
        self.same(self.error(NotInField, from_residues, [3, 7], [3, 9]).value, 3)

    def test_things_are_defined_in_their_places(self):
        for thing in (are_enough, best_lie, count_journals, from_residues, judge_count, least_primes, lie_share,
                      residues):
            self.same(thing.__module__, "sumtalk.exact")
            self.assertIs(getattr(exact, thing.__name__), thing)


class CountJournals(Case):
    def test_journals_are_those_of_honest_talks(self):
        for formula, places in FORMULAS:
            for primes in PRIME_ROWS:
                rows = [[(3 * at + prime + 1) % prime for at in range(places)] for prime in primes]
                found = count_journals(formula, places, primes, rows)
                self.same([type(journal) for journal in found], [Journal] * len(primes))
                for prime, coins, journal in zip(primes, rows, found):
                    claim = counting_claim(formula, prime, places)
                    self.assertEqual(journal, talk(claim, Honest(claim), coins))
                    self.same(journal.total, len(models(formula, places)) % prime)
        for rows in ([[1, 2], [4, 4]], ((1, 2), (4, 4)), ([1, 2], (4, 4))):
            found = count_journals(formula=OR, places=2, primes=(3, 5), coin_rows=rows)
            self.same([journal.coins for journal in found], [(1, 2), (4, 4)])
        self.same(rows, ([1, 2], (4, 4)))
        count_journals(OR, 2, [3], [[0, 0]]).append("changed")
        self.same(len(count_journals(OR, 2, [3], [[0, 0]])), 1)
        self.same(count_journals(OR, 2, [], []), [])

    def test_wrong_rows_of_coins(self):
        refusals(self, lambda formula, places: count_journals(formula, places, [4], "wrong"))
        for rows in ([], [[0, 0]], [[0, 0]] * 3, ["wrong"] * 3, [[0, 0]] * 9):
            self.error(WrongPlaces, count_journals, OR, 2, [3, 5], rows)
        for coins in ([], [0], [0] * 3, ["wrong"], [9] * 3):
            self.error(WrongPlaces, count_journals, OR, 2, [3, 5], [[0, 0], coins])
        self.no_number(5, lambda coin: count_journals(OR, 2, [3, 5], [[0, 0], [1, coin]]))
        self.same(self.error(NotInField, count_journals, OR, 2, [3, 5], [[0, 4], [9, 0]]).value, 4)
        # The first row completely ahead of the second one.
        self.same(self.error(NotInField, count_journals, OR, 2, [3, 5], [[0, 4], [0]]).value, 4)
        self.error(WrongPlaces, count_journals, OR, 2, [3, 5], [[0], [9, 9]])

    def test_too_few_places(self):
        self.error(OutOfRange, count_journals, OR, 1, [3], [[0]])
        self.error(OutOfRange, count_journals, TALL, 3, [], [])
        # It is told behind all else, with as many coins as the places tell.
        self.same(self.error(NotInField, count_journals, OR, 1, [3], [[3]]).value, 3)
        self.error(WrongPlaces, count_journals, OR, 1, [3], [[0, 0]])


class Judging(Case):
    def test_true_counts(self):
        for formula, places in FORMULAS:
            count = len(models(formula, places))
            for primes in PRIME_ROWS:
                verdict = judge_count(formula, places, count, true_parts(formula, places, primes))
                expected = (None, "let by") if product(primes) > 2 ** places else (len(primes) + 1, "primes")
                self.same(verdict, expected)
        journals = true_parts(OR, 2, [2, 3])
        self.same(judge_count(formula=OR, places=2, count=3, parts=tuple(journals)), (None, "let by"))
        self.same(judge_count(OR, 2, 3, journals), (None, "let by"))

    def test_no_journals(self):
        self.same(judge_count(OR, 2, 3, []), (1, "primes"))
        self.same(judge_count(read_formula("true"), 0, 1, []), (1, "primes"))
        self.same(judge_count(OR, 2, 5, ()), (0, "count"))

    def test_the_count_decides(self):
        for places in (2, 3, 5):
            most = 2 ** places
            parts = true_parts(OR, places, [2, 3, 5, 7], count=most + 1)
            self.same(judge_count(OR, places, most + 1, parts), (0, "count"))
            self.same(judge_count(OR, places, 10 ** 300, parts), (0, "count"))
            self.same(judge_count(OR, places, most, parts)[1], "talk")
        everything = read_formula("true")
        self.same(judge_count(everything, 3, 8, true_parts(everything, 3, [2, 5])), (None, "let by"))
        self.same(judge_count(everything, 3, 0, true_parts(everything, 3, [2])), (2, "primes"))
        self.same(judge_count(everything, 3, 0, true_parts(everything, 3, [2, 5])), (2, "talk"))

    def test_the_order_of_the_checks(self):
        good = true_parts(OR, 2, [3, 5, 7])
        other = true_parts(AND_NOT, 2, [3, 5, 7])
        bad = good[1].replaced(1, good[1].polys[0].scale(2))
        for parts, count, verdict in (
                ([good[0], good[0]], 3, (2, "prime")), ([good[0], other[0]], 3, (2, "prime")),
                ([good[0], good[1], good[0]], 3, (3, "prime")), ([bad, good[1]], 3, (1, "talk")),
                ([good[0], bad, good[0]], 3, (2, "talk")), ([good[0], good[0], bad], 3, (2, "prime")),
                (good + [good[2]], 3, (4, "prime")), ([good[0], other[1]], 3, (2, "talk")),
                (good[:1], 3, (2, "primes")), ([bad], 3, (1, "talk")), ([good[0], good[0]], 5, (0, "count")),
                ([good[0].cut(1), good[1]], 3, (1, "talk")), (good, 3, (None, "let by")),
                (good[::-1], 3, (None, "let by")), (good, 0, (2, "talk")),
                (good, 2, (1, "talk"))):
            self.same(judge_count(OR, 2, count, parts), verdict)

    def test_each_journal_is_judged_against_the_counting_claim(self):
        for formula, places in FORMULAS:
            for count in range(0, 2 ** places + 1, 3):
                for prime in (2, 3, 7):
                    claim = counting_claim(formula, prime, places, count=count)
                    for teller in (Honest(claim), Liar(claim, best_paper(claim))):
                        for shift in (0, 1):
                            journal = talk(claim, teller, [(at + shift) % prime for at in range(places)])
                            fits = judge(claim, journal) == (None, "let by")
                            enough = prime > 2 ** places
                            expected = (1, "talk") if not fits else ((None, "let by") if enough else (2, "primes"))
                            self.same(judge_count(formula, places, count, [journal]), expected)

    def test_journals_on_forms_with_other_degrees(self):
        # The told degrees are the occurrences: X1 X1 is of degree 2.
        square = read_formula("and x1 x1")
        claim = Claim(Form(5, 1, [((2,), 1)]), degrees=[2])
        self.same(judge_count(square, 1, 1, [talk(claim, Honest(claim), [3])]), (None, "let by"))
        claim = counting_claim(read_formula("x1"), 5, 1)
        self.same(judge_count(square, 1, 1, [talk(claim, Honest(claim), [3])]), (1, "talk"))
        self.same(judge_count(square, 1, 1, [talk(claim, Honest(claim), [1])]), (None, "let by"))

    def test_wrong_arguments(self):
        refusals(self, lambda formula, places: judge_count(formula, places, -1, ["wrong"] * 9))
        for count in (-1, 10 ** 300 + 1) + HUGE + OTHER_KINDS:
            self.error(OutOfRange, judge_count, OR, 2, count, ["wrong"] * 9)
        parts = true_parts(OR, 2, PRIMES_TO_101[:8])
        self.same(judge_count(OR, 2, 3, parts), (None, "let by"))
        self.error(TooLarge, judge_count, OR, 2, 3, parts + parts[:1])
        self.error(TooLarge, judge_count, OR, 2, 9, ["wrong"] * 9)
        self.error(OutOfRange, judge_count, OR, 1, 3, parts)
        self.error(OutOfRange, judge_count, OR, 1, 9, [])
        # Too few places are told behind the row of journals.
        self.error(TooLarge, judge_count, OR, 1, 3, parts + parts[:1])


class Lies(Case):
    def plain_lie_share(self, formula, places, primes, count):
        missed = [prime for prime in primes if (count - len(models(formula, places))) % prime]
        return product([fraction(rule_share(prime, occurrences(formula, places))) for prime in missed])

    def test_lie_share(self):
        for formula, places in FORMULAS:
            for primes in PRIME_ROWS:
                for count in (*range(2 ** places + 3), 10 ** 299 + 1, 10 ** 300):
                    share = lie_share(formula, places, primes, count)
                    self.assertIs(type(share), Share)
                    self.same(fraction(share), Fraction(self.plain_lie_share(formula, places, primes, count)))
                    if count <= 2 ** places and count != len(models(formula, places)) and are_enough(primes, places):
                        self.assertLess(fraction(share), 1)

    def test_edges(self):
        # The true count, and those that agree modulo all primes, are never found out.
        for primes, count, text in (([2, 3], 3, "1/1"), ([2, 3], 9, "1/1"), ([2, 3], 15, "1/1"), ([], 0, "1/1"),
                                    ([3], 0, "1/1"), ([2], 1, "1/1"), ([2], 0, "3/4"), ([3], 1, "5/9"),
                                    ([2, 3], 0, "3/4"), ([2, 3], 1, "5/9"), ([2, 3], 2, "5/12")):
            self.same(self.keeps(lambda row: lie_share(OR, 2, row, count), primes).text(), text)
        self.same(lie_share(formula=OR, places=2, primes=[2, 3], count=2).text(), "5/12")
        # A place that does not occur has the told degree 0, and over 2 it ends the counting rounds.
        self.same(lie_share(read_formula("x2"), 2, [2], 1).text(), "0/1")
        self.same(lie_share(read_formula("x2"), 2, [3], 1).text(), "1/3")
        self.same(lie_share(read_formula("x1"), 2, [2], 1).text(), "1/2")
        self.same(lie_share(read_formula("true"), 0, [2], 0).text(), "0/1")

    def test_wrong_arguments(self):
        refusals(self, lambda formula, places: lie_share(formula, places, [4], -1))
        refusals(self, lambda formula, places: best_lie(formula, places, [4]))
        for count in (-1, 10 ** 300 + 1) + HUGE + OTHER_KINDS:
            self.error(OutOfRange, lie_share, OR, 2, [2], count)
        self.error(OutOfRange, lie_share, OR, 1, [2], 0)
        self.error(OutOfRange, best_lie, OR, 1, [2])
        self.error(OutOfRange, best_lie, TALL, 3, [])
        self.error(Repeated, lie_share, OR, 1, [2, 2], -1)

    def test_best_lie(self):
        for formula, places in FORMULAS:
            for primes in PRIME_ROWS:
                counts = [count for count in range(2 ** places + 1) if count != len(models(formula, places))]
                shares = [self.plain_lie_share(formula, places, primes, count) for count in counts]
                count, share = self.keeps(lambda row: best_lie(formula, places, row), primes)
                self.assertIs(type(share), Share)
                self.same((count, fraction(share)), (counts[shares.index(max(shares))], Fraction(max(shares))))

    def test_ties_of_the_best_lie(self):
        for text, places, primes, expected in (("or x1 x2", 2, [], (0, "1/1")), ("false", 2, [], (1, "1/1")),
                                               ("false", 0, [], (1, "1/1")), ("true", 0, [101], (0, "0/1")),
                                               ("or x1 x2", 2, [101], (0, "201/10201")), ("x1", 1, [2], (0, "1/2")),
                                               ("or x1 x2", 2, [3], (0, "1/1")), ("or x1 x2", 2, [2], (1, "1/1")),
                                               ("and x1 x2", 2, [2, 3], (4, "3/4")), ("false", 2, [5, 3], (1, "0/1"))):
            count, share = best_lie(formula=read_formula(text), places=places, primes=primes)
            self.same((count, share.text()), expected)

    def test_a_lie_share_is_that_of_the_best_liars(self):
        # With the best liars over the primes that the count misses, just this share of all coins lets the count by.
        for count in (0, 1, 2, 4):
            rows = {2: list(itertools.product(range(2), repeat=2)), 3: list(itertools.product(range(3), repeat=2))}
            let_by = 0
            for coins, other_coins in itertools.product(rows[2], rows[3]):
                parts = []
                for prime, row in ((2, coins), (3, other_coins)):
                    claim = counting_claim(OR, prime, 2, count=count)
                    parts.append(talk(claim, Liar(claim, best_paper(claim)), row))
                let_by += judge_count(OR, 2, count, parts) == (None, "let by")
            self.same(Fraction(let_by, 36), fraction(lie_share(OR, 2, [2, 3], count)))
