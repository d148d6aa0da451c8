"""Points [42] to [46] and the entry sumtalk/liars.py."""

import itertools
from fractions import Fraction

from sumtalk import liars
from sumtalk.claims import Claim
from sumtalk.counts import let_by_rows, liar_share, share_of
from sumtalk.errors import BadPaper, BadText, NoUnit, NotInField, OtherField, TooLarge, WrongPlaces
from sumtalk.forms import Form
from sumtalk.journals import Journal
from sumtalk.judging import is_let_by, judge
from sumtalk.liars import (Liar, Paper, best_paper, best_unit, difference_polys, error_row, is_paper, lucky_round,
                           read_paper, unit_poly)
from sumtalk.points import all_polys, roots_of
from sumtalk.polys import Poly
from sumtalk.shares import Share
from sumtalk.tellers import Honest, Teller, talk
from helper import Case, NO_TEXTS, all_points, plain_round, plain_sum, some_forms

FORM = Form(5, 2, [((0, 1), 3), ((2, 0), 1)])
CLAIM = Claim(FORM, total=0)
ZERO, HALF, PLACE = Poly(5, []), Poly(5, [3]), Poly(5, [0, 1])
FOREIGN = Poly(7, [4])


def written(thing):
    return thing.text()


def product_at(prime, numbers, number):
    value = 1
    for root in numbers:
        value = value * (number - root) % prime
    return value


def plain_errors(claim, units, coins):
    """The errors of a liar, one more than coins."""
    errors = [(claim.total - plain_sum(claim.form)) % claim.prime]
    for unit, coin in zip(units, coins):
        value = 0 if unit is None else sum(number * coin ** power for power, number in enumerate(unit.coefficients))
        errors.append(errors[-1] * value % claim.prime)
    return errors


def papers_for(claim):
    """Several papers that are good for the claim."""
    rows = []
    for degree in claim.degrees:
        units = [unit for unit in all_polys(claim.prime, min(degree, 2)) if unit.ends() == 1]
        rows.append([None, best_unit(claim.prime, degree)] + units[::max(1, len(units) // 3)])
    return [Paper(claim.prime, row) for row in itertools.product(*rows)][:40]


def false_claims():
    """False claims over small primes, with told degrees of all kinds."""
    for prime, degrees in ((2, (1,)), (2, (0, 1)), (2, (1, 0, 1)), (2, (2, 1, 3)), (3, (1, 2)), (3, (0, 3)), (5, (2,)),
                           (5, (1, 4)), (7, (3,))):
        places = len(degrees)
        grid = list(itertools.product(*[range(degree + 1) for degree in degrees]))
        for terms in ([], [(exponents, (2 * at + 1) % prime) for at, exponents in enumerate(grid)]):
            form = Form(prime, places, terms)
            for total in range(prime):
                if total != plain_sum(form):
                    yield Claim(form, degrees=degrees, total=total)


class Units(Case):
    def test_unit_poly(self):
        for prime in (2, 3, 5, 101):
            for many in range(4):
                for numbers in list(itertools.product(sorted({0, 1, 2 % prime, prime - 1}), repeat=many))[:30]:
                    ends = (product_at(prime, numbers, 0) + product_at(prime, numbers, 1)) % prime
                    if ends == 0:
                        self.error(NoUnit, unit_poly, prime, numbers)
                        continue
                    unit = self.keeps(unit_poly, prime, list(numbers))
                    self.same((unit.prime, unit.degree, unit.ends()), (prime, many, 1))
                    for number in range(prime):
                        self.same(unit.at(number) * ends % prime, product_at(prime, numbers, number))

    def test_repeated_roots(self):
        self.same(unit_poly(5, [0, 0]).text(), "5 0.0.1")
        self.same(unit_poly(prime=5, numbers=[2, 2, 2]).degree, 3)
        self.same(unit_poly(5, [0] * 127).coefficients, (0,) * 127 + (1,))

    def test_no_roots(self):
        self.same(unit_poly(5, []).text(), "5 3")
        self.same(unit_poly(101, ()).text(), "101 51")
        self.error(NoUnit, unit_poly, 2, [])

    def test_ends_that_are_0(self):
        for prime, numbers in ((2, []), (5, [0, 1]), (5, [3]), (3, [2]), (2, [0, 1]), (5, [0, 1, 2, 3, 4])):
            self.error(NoUnit, unit_poly, prime, numbers)

    def test_wrong_roots(self):
        self.no_prime(lambda prime: unit_poly(prime, [9] * 128))
        self.error(TooLarge, unit_poly, 5, [0] * 128)
        self.error(TooLarge, unit_poly, 5, ["wrong"] * 128)
        self.no_number(5, lambda number: unit_poly(5, [2, number]))
        # The product of X and X - 1 would have no unit.
        self.same(self.error(NotInField, unit_poly, 5, [0, 1, 8, 9]).value, 8)

    def test_best_unit(self):
        self.same(best_unit(3, 2).text(), "3 0.2.2")
        for prime in (2, 3, 5, 7, 101):
            for degree in (0, 1, 2, 3, 4, 5, 6, 98, 99, 100, 101, 127):
                many = min(degree, prime - 1)
                unit = best_unit(prime=prime, degree=degree)
                if prime == 2 and degree == 0:
                    self.assertIsNone(unit)
                    continue
                self.same((unit.prime, unit.degree, unit.ends()), (prime, many, 1))
                self.same(roots_of(unit), [0, *range(2, prime)][:many])
        self.same(best_unit(2, 1).text(), "2 0.1")
        self.same(best_unit(2, 127).text(), "2 0.1")
        self.same(best_unit(5, 0).text(), "5 3")

    def test_no_unit_has_more_roots(self):
        for prime, degree in ((2, 0), (2, 1), (2, 3), (3, 0), (3, 1), (3, 2), (3, 4), (5, 2), (7, 1)):
            units = [poly for poly in all_polys(prime, degree) if poly.ends() == 1]
            best = best_unit(prime, degree)
            self.same(max([len(roots_of(unit)) for unit in units], default=None),
                      None if best is None else len(roots_of(best)))

    def test_wrong_degrees(self):
        self.no_prime(lambda prime: best_unit(prime, 128))
        for prime in (2, 5):
            self.no_range(0, 127, lambda degree: best_unit(prime, degree))


class Papers(Case):
    def test_attributes(self):
        for units in ([PLACE, None, ZERO], (PLACE, None, ZERO)):
            paper = Paper(prime=5, units=units)
            self.same((paper.prime, paper.units), (5, (PLACE, None, ZERO)))
            self.assertLessEqual({"prime", "units"}, set(vars(paper)))
        self.same(Paper(2, []).units, ())
        self.same(len(Paper(5, [None] * 32).units), 32)

    def test_a_row_that_is_changed_behind_the_call(self):
        units = [PLACE, None]
        paper = Paper(5, units)
        units[0] = ZERO
        units.append(ZERO)
        self.same(paper.units, (PLACE, None))

    def test_wrong_entries(self):
        self.no_prime(lambda prime: Paper(prime, [FOREIGN] * 33))
        self.error(TooLarge, Paper, 5, [None] * 33)
        self.error(TooLarge, Paper, 5, ["wrong"] * 33)
        self.error(OtherField, Paper, 5, [PLACE, None, FOREIGN])
        self.error(OtherField, Paper, 5, [FOREIGN])

    def test_root_counts(self):
        units = [PLACE, None, ZERO, HALF, Poly(5, [0, 4, 0, 0, 0, 1]), Poly(5, [0, 0, 1]), Poly(5, [2, 0, 1])]
        self.same(Paper(5, units).root_counts(), [1, None, 5, 0, 5, 1, 0])
        self.same(Paper(5, []).root_counts(), [])
        self.new_list(Paper(5, [PLACE]).root_counts)

    def test_share(self):
        place = Fraction(1, 5)
        for units, share in (([], 0), ([None], 0), ([None, PLACE], 0), ([HALF], 0), ([PLACE], place), ([ZERO], 1),
                             ([PLACE, PLACE], 1 - (1 - place) ** 2), ([PLACE, None, PLACE], place),
                             ([PLACE, HALF, PLACE], 1 - (1 - place) ** 2), ([PLACE, ZERO, None], 1),
                             ([PLACE, None, ZERO], place), ([PLACE] * 32, 1 - (1 - place) ** 32),
                             ([None] * 32, 0), ([Poly(5, [0, 3, 1]), PLACE], 1 - (1 - 2 * place) * (1 - place))):
            found = Paper(5, units).share()
            self.assertIsInstance(found, Share)
            self.same(Fraction(found.top, found.bottom), Fraction(share))

    def test_equality(self):
        paper = Paper(5, [PLACE, None])
        self.same(paper == Paper(5, (Poly(5, [0, 1, 0]), None)), True)
        for other in (Paper(5, [PLACE, ZERO]), Paper(5, [None, PLACE]), Paper(5, [PLACE]),
                      Paper(5, [PLACE, None, None]), Paper(7, [Poly(7, [0, 1]), None]), paper.units, paper.text(),
                      None):
            self.same(paper == other, False)
            self.same(other == paper, False)
        self.same(Paper(5, []) == Paper(7, []), False)
        self.same(Paper(5, []) == Paper(5, []), True)

    def test_text(self):
        self.same(Paper(5, [PLACE, None]).text(), "5 0.1 none")
        self.same(Paper(5, []).text(), "5")
        self.same(Paper(101, [None, Poly(101, []), Poly(101, [100, 0, 7])]).text(), "101 none - 100.0.7")

    def test_read_back(self):
        longest = [Poly(101, [100] * 128)] * 32
        for paper in (Paper(5, [PLACE, None]), Paper(5, []), Paper(2, [None] * 32), Paper(101, longest),
                      Paper(5, [ZERO, HALF])):
            again = read_paper(text=paper.text())
            self.assertEqual(again, paper)
            self.same((again.prime, again.units), (paper.prime, paper.units))

    def test_texts_that_differ_in_one_place(self):
        for text in ("5", "5 0.1 none", "2 - none 1", "101 none none 100.0.99"):
            self.reads_its_own(read_paper, written, text)

    def test_bad_texts(self):
        for text in ("", " ", "4", "1", "05", "103", "5 ", " 5", "5  none", "5 none ", "5\nnone", "5 none\n", "none",
                     "-", "5 None", "5 no", "5 nonenone", "5 none.1", "5 0.1.0", "5 0", "5 5", "5 1.5", "5 01",
                     "5 1..2", "5 a", "5 --", "5 - -1", "5:0.1", "5" + " none" * 33, "5" + " 1" * 33,
                     "5" + " none" * 5000, "5 " + "1." * 128 + "1", "1" * 301, "5 " + "1" * 301):
            with self.subTest(text[:20]):
                self.error(BadText, read_paper, text)
        for value in NO_TEXTS + (Paper(5, []),):
            self.error(BadText, read_paper, value)

    def test_good_papers(self):
        claim = Claim(FORM, degrees=[2, 1])
        square = Poly(5, [0, 0, 1])
        for units, good in (([PLACE, PLACE], True), ([None, None], True), ([square, PLACE], True),
                            ([HALF, HALF], True), ([PLACE, square], False), ([Poly(5, [0, 0, 0, 1]), PLACE], False),
                            ([PLACE], False), ([PLACE] * 3, False), ([], False), ([PLACE, ZERO], False),
                            ([PLACE, Poly(5, [1])], False), ([PLACE, Poly(5, [0, 2])], False),
                            ([Poly(5, [0, 2]), None], False), ([None, square], False)):
            self.same(is_paper(claim=claim, paper=Paper(5, units)), good)
        sevenths = Paper(7, [Poly(7, [0, 1])] * 2)
        self.same(is_paper(claim, sevenths), False)
        self.same(is_paper(claim, Paper(7, [None, None])), False)
        self.same(is_paper(Claim(Form(7, 2, FORM.terms)), sevenths), True)
        self.same(is_paper(Claim(Form(5, 0, [])), Paper(5, [])), True)
        self.same(is_paper(Claim(Form(5, 0, [])), Paper(7, [])), False)
        # The told degree counts, and the paper is good whether the claim is true or not.
        self.same(is_paper(Claim(Form(5, 1, []), degrees=[2], total=1), Paper(5, [square])), True)

    def test_best_paper(self):
        for claim in (CLAIM, Claim(Form(2, 3, []), degrees=[1, 0, 12]), Claim(Form(5, 0, [])), Claim(Form(3, 1, []))):
            paper = best_paper(claim=claim)
            self.same(paper.prime, claim.prime)
            self.same(paper.units, tuple(best_unit(claim.prime, degree) for degree in claim.degrees))
            self.same(is_paper(claim, paper), True)
        self.same(best_paper(Claim(Form(2, 3, []), degrees=[1, 0, 12])).text(), "2 0.1 none 0.1")


class Liars(Case):
    def test_hand_ins(self):
        for claim in list(false_claims()) + [Claim(form) for form in some_forms(5, 2)]:
            for paper in papers_for(claim)[::5]:
                liar = Liar(claim=claim, paper=paper)
                self.assertIsInstance(liar, Teller)
                self.same(vars(liar)["prime"], claim.prime)
                for many in range(claim.places):
                    for coins in all_points(claim.prime, many)[:12]:
                        expected = Poly(claim.prime, plain_round(claim.form, coins))
                        if paper.units[many] is not None:
                            error = plain_errors(claim, paper.units, coins)[-1]
                            expected = expected + paper.units[many].scale(error)
                        self.same(self.keeps(liar.hand, list(coins)).coefficients, expected.coefficients)

    def test_shares(self):
        for claim in false_claims():
            best = best_paper(claim)
            self.assertEqual(best.share(), liar_share(claim))
            for paper in [best] + papers_for(claim):
                with self.subTest((claim.text(), paper.text())):
                    share = share_of(claim, Liar(claim, paper))
                    self.assertEqual(share, paper.share())
                    self.assertTrue(share.at_most(liar_share(claim)))

    def test_a_true_claim(self):
        claim = Claim(FORM, degrees=[2, 2])
        for paper in papers_for(claim):
            liar = Liar(claim, paper)
            for coins in [()] + all_points(5, 1):
                self.same(liar.hand(list(coins)).coefficients, Honest(claim).hand(list(coins)).coefficients)
            self.same(share_of(claim, liar).text(), "1/1")

    def test_no_entry_breaks_the_round(self):
        claim = Claim(Form(2, 2, []), degrees=[1, 0], total=1)
        liar = Liar(claim, best_paper(claim))
        self.same(judge(claim, talk(claim, liar, [1, 0])), (2, "sum"))
        self.same(judge(claim, talk(claim, liar, [0, 0])), (None, "let by"))

    def test_too_many_coins(self):
        liar = Liar(CLAIM, best_paper(CLAIM))
        for coins in ([0, 0], [0] * 3, [0] * 33):
            self.error(WrongPlaces, liar.hand, coins)
        self.error(WrongPlaces, Liar(Claim(Form(5, 0, [])), Paper(5, [])).hand, [])

    def test_bad_papers(self):
        for units in ([], [PLACE], [PLACE] * 3, [PLACE, ZERO], [PLACE, Poly(5, [0, 0, 1])]):
            self.error(BadPaper, Liar, CLAIM, Paper(5, units))
            self.error(BadPaper, error_row, CLAIM, Paper(5, units), [])
        for units in ([], [FOREIGN] * 2, [Poly(7, [0, 1])] * 2):
            self.error(OtherField, Liar, CLAIM, Paper(7, units))
            self.error(OtherField, error_row, CLAIM, Paper(7, units), [9] * 3)

    def test_error_row(self):
        for claim in list(false_claims()) + [Claim(FORM)]:
            for paper in papers_for(claim)[::3]:
                for many in range(claim.places + 1):
                    for coins in all_points(claim.prime, many)[::3]:
                        row = self.keeps(lambda row: error_row(claim, paper, row), list(coins))
                        self.same(row, plain_errors(claim, paper.units, coins))
        paper = Paper(5, [None, PLACE])
        self.same(error_row(claim=CLAIM, paper=paper, coins=[1, 2]), [2, 0, 0])
        self.new_list(error_row, CLAIM, paper, [1])

    def test_wrong_coins_of_an_error_row(self):
        paper = best_paper(CLAIM)
        for coins in ([0] * 3, ["wrong"] * 3, [0] * 33):
            self.error(WrongPlaces, error_row, CLAIM, paper, coins)
            self.error(WrongPlaces, error_row, CLAIM, Paper(5, []), coins)
        self.no_number(5, lambda coin: error_row(CLAIM, paper, [0, coin]))
        # A paper that is not good is told last.
        self.same(self.error(NotInField, error_row, CLAIM, Paper(5, []), [0, 8]).value, 8)
        self.error(WrongPlaces, error_row, Claim(Form(5, 0, [])), Paper(5, [PLACE]), [0])


class Luck(Case):
    def journals(self, claim):
        """Journals of liars, and such as fit nothing."""
        for coins in all_points(claim.prime, claim.places)[:30]:
            for paper in papers_for(claim)[::4]:
                journal = talk(claim, Liar(claim, paper), coins)
                yield journal
                yield Journal(claim.prime, (journal.total + 1) % claim.prime, journal.rounds[::-1])
                yield Journal(claim.prime, 0, [*journal.rounds, (Poly(claim.prime, [1]), 0)])

    def test_difference_polys(self):
        for claim in false_claims():
            for journal in self.journals(claim):
                expected = []
                for k, poly in enumerate(journal.polys[:claim.places]):
                    row = poly - Poly(claim.prime, plain_round(claim.form, journal.coins[:k]))
                    expected.append(row.coefficients)
                found = difference_polys(claim=claim, journal=journal)
                self.same([poly.coefficients for poly in found], expected)
                self.same({poly.prime for poly in found} <= {claim.prime}, True)
        self.same(difference_polys(CLAIM, Journal(5, 0, [])), [])
        self.same(difference_polys(Claim(Form(5, 0, [])), Journal(5, 0, [(PLACE, 1)])), [])
        self.new_list(difference_polys, CLAIM, Journal(5, 0, [(PLACE, 1)]))

    def test_lucky_round(self):
        seen = set()
        for claim in false_claims():
            for journal in self.journals(claim):
                expected = None
                for k in range(min(claim.places, journal.length), -1, -1):
                    if journal.owed()[k] == plain_sum(claim.form, journal.coins[:k]):
                        expected = k
                self.same(lucky_round(claim=claim, journal=journal), expected)
                seen.add(expected)
        self.same(seen, {None, 0, 1, 2, 3})

    def test_lucky_rounds_of_no_journal_of_the_claim(self):
        # The journal's own total counts, and nothing is judged.
        total = plain_sum(FORM)
        self.same(lucky_round(CLAIM, Journal(5, total, [])), 0)
        self.same(lucky_round(CLAIM, Journal(5, 0, [])), None)
        self.same(lucky_round(Claim(FORM), Journal(5, total, [])), 0)
        self.same(lucky_round(Claim(FORM), Journal(5, 0, [(Poly(5, [0] * 50), 0)] * 3)), 2)
        # A round behind the places is not looked at.
        none = Claim(Form(5, 0, [((), 3)]))
        self.same(lucky_round(none, Journal(5, 0, [(HALF, 1)])), None)
        self.same(lucky_round(none, Journal(5, 3, [])), 0)
        self.same(lucky_round(none.with_total(4), Journal(5, 4, [])), None)

    def test_every_journal_that_is_let_by_was_lucky(self):
        for claim in false_claims():
            for paper in [best_paper(claim)] + papers_for(claim):
                liar = Liar(claim, paper)
                for coins in let_by_rows(claim, liar)[:20]:
                    journal = talk(claim, liar, coins)
                    self.same(is_let_by(claim, journal), True)
                    k = lucky_round(claim, journal)
                    self.assertGreaterEqual(k, 1)
                    difference = difference_polys(claim, journal)[k - 1]
                    self.same(difference.at(journal.coins[k - 1]), 0)
                    self.assertNotEqual(difference.ends(), 0)

    def test_other_fields(self):
        for call in (difference_polys, lucky_round):
            self.error(OtherField, call, CLAIM, Journal(7, 0, []))
            self.error(OtherField, call, Claim(Form(5, 0, [])), Journal(7, 0, [(FOREIGN, 1)]))

    def test_things_are_defined_in_their_places(self):
        for name in ("__init__", "__eq__", "root_counts", "share", "text"):
            self.assertIn(name, vars(Paper))
        for name in ("__init__", "hand"):
            self.assertIn(name, vars(Liar))
        for thing in (Liar, Paper, best_paper, best_unit, difference_polys, error_row, is_paper, lucky_round,
                      read_paper, unit_poly):
            self.same(thing.__module__, "sumtalk.liars")
            self.assertIs(getattr(liars, thing.__name__), thing)
