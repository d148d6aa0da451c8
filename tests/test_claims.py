"""Points [28] and [31] and the entry sumtalk/claims.py."""

from sumtalk import claims
from sumtalk.claims import Claim, read_claim, table_claim
from sumtalk.errors import BadText, DegreeTooHigh, NotInField, OutOfRange, WrongPlaces
from sumtalk.fillings import filling
from sumtalk.forms import Form
from helper import Case, NO_TEXTS, HUGE, OTHER_KINDS, plain_sum, some_forms

SECOND = Form(5, 2, [((0, 1), 3), ((2, 0), 1)])


def written(claim):
    return claim.text()


class Making(Case):
    def test_what_is_left_out(self):
        for prime in (2, 5, 101):
            for places in range(6):
                for form in some_forms(prime, places):
                    for claim in (Claim(form), Claim(form, degrees=None, total=None), Claim(form=form)):
                        self.assertEqual(claim.form, form)
                        self.same(claim.degrees, form.degrees)
                        self.same(claim.total, plain_sum(form))
                        self.same((claim.prime, claim.places), (prime, places))

    def test_what_is_told(self):
        for prime in (2, 5, 101):
            for places in range(6):
                for form in some_forms(prime, places):
                    for degrees in ([12] * places, [degree + 1 for degree in form.degrees], list(form.degrees)):
                        for total in (0, 1, prime - 1):
                            claim = self.keeps(lambda row: Claim(form, degrees=row, total=total), degrees)
                            self.same((claim.degrees, claim.total), (tuple(degrees), total))

    def test_one_of_the_two_is_told(self):
        self.same(Claim(SECOND, degrees=[3, 4]).total, 3)
        self.same(Claim(SECOND, degrees=[3, 4], total=0).total, 0)
        self.same(Claim(SECOND, total=0).degrees, (2, 1))
        self.assertRaises(TypeError, Claim, SECOND, [2, 1])

    def test_a_row_that_is_changed_behind_the_call(self):
        degrees = [3, 4]
        claim = Claim(SECOND, degrees=degrees)
        degrees[0] = 12
        degrees.append(1)
        self.same(claim.degrees, (3, 4))

    def test_least_and_greatest_told_degrees(self):
        self.same(Claim(Form(5, 3, []), degrees=[0, 12, 0]).degrees, (0, 12, 0))
        self.same(Claim(Form(5, 1, [((12,), 1)]), degrees=[12]).degrees, (12,))
        self.same(Claim(Form(2, 1, [((0,), 1)]), degrees=(0,), total=1).text(), "2 1 1:0 | 1 0")

    def test_no_places(self):
        claim = Claim(Form(5, 0, [((), 3)]), degrees=[], total=4)
        self.same((claim.degrees, claim.total, claim.places, claim.true_total()), ((), 4, 0, 3))
        self.same(Claim(Form(5, 0, [((), 3)])).total, 3)
        self.same(Claim(Form(5, 0, [])).total, 0)

    def test_wrong_number_of_told_degrees(self):
        for row in ([], [2], [2, 1, 0], [2] * 33, ["wrong"], ["wrong"] * 3, [0]):
            self.error(WrongPlaces, Claim, SECOND, degrees=row)
            self.error(WrongPlaces, Claim, SECOND, degrees=tuple(row), total="wrong")
        self.error(WrongPlaces, Claim, Form(5, 0, []), degrees=[0])

    def test_wrong_told_degrees(self):
        for wrong in (-1, 13, 127) + HUGE + OTHER_KINDS:
            self.error(OutOfRange, Claim, SECOND, degrees=[wrong, 1])
            self.error(OutOfRange, Claim, SECOND, degrees=[0, wrong], total="wrong")

    def test_wrong_total(self):
        self.no_number(5, lambda total: Claim(SECOND, total=total), none=False)
        self.same(self.error(NotInField, Claim, SECOND, degrees=[0, 0], total=9).value, 9)

    def test_degree_too_high(self):
        for row in ([1, 1], [2, 0], [0, 0], [0, 12], [12, 0]):
            self.error(DegreeTooHigh, Claim, SECOND, degrees=row)
            self.error(DegreeTooHigh, Claim, SECOND, degrees=row, total=1)
        # Formally: the square of a number over 2 is the number, but its degree is 2.
        self.error(DegreeTooHigh, Claim, Form(2, 1, [((2,), 1)]), degrees=[1])

    def test_things_are_defined_in_their_places(self):
        for name in ("__init__", "__eq__", "true_total", "is_true", "error", "with_total", "text"):
            self.assertIn(name, vars(Claim))
        for thing in (Claim, read_claim, table_claim):
            self.same(thing.__module__, "sumtalk.claims")
            self.assertIs(getattr(claims, thing.__name__), thing)


class Truth(Case):
    def test_true_total_and_error(self):
        for prime in (2, 5, 101):
            for places in range(6):
                for form in some_forms(prime, places):
                    true_total = plain_sum(form)
                    for total in {0, 1, prime - 1, true_total}:
                        claim = Claim(form, total=total)
                        self.same(claim.true_total(), true_total)
                        self.same(claim.is_true(), total == true_total)
                        self.same(claim.error(), (total - true_total) % prime)
                    self.same(Claim(form).is_true(), True)

    def test_with_total(self):
        claim = Claim(SECOND, degrees=[3, 4])
        other = claim.with_total(0)
        self.same((other.degrees, other.total, other.is_true()), ((3, 4), 0, False))
        self.assertEqual(other.form, SECOND)
        self.same((claim.total, claim.is_true()), (3, True))
        self.assertEqual(claim.with_total(total=3), claim)
        self.no_number(5, claim.with_total)
        self.assertIsNone(self.error(NotInField, claim.with_total, None).value)

    def test_equality(self):
        claim = Claim(SECOND, degrees=[3, 4], total=1)
        self.same(claim == Claim(SECOND, degrees=(3, 4), total=1), True)
        self.same(claim == Claim(Form(5, 2, SECOND.terms[::-1]), degrees=(3, 4), total=1), True)
        self.same(Claim(SECOND) == Claim(SECOND, degrees=[2, 1], total=3), True)
        for other in (Claim(SECOND, degrees=[3, 4], total=2), Claim(SECOND, degrees=[3, 5], total=1),
                      Claim(Form(5, 2, [((0, 1), 2), ((2, 0), 1)]), degrees=[3, 4], total=1),
                      Claim(Form(7, 2, SECOND.terms), degrees=[3, 4], total=1),
                      Claim(Form(5, 0, [])), SECOND, claim.text(), None, 1):
            self.same(claim == other, False)
            self.same(other == claim, False)
        self.same(Claim(Form(5, 0, [])) == Claim(Form(7, 0, [])), False)
        self.same(Claim(Form(5, 1, [])) == Claim(Form(5, 2, []), degrees=[0, 0]), False)


class Tables(Case):
    def test_table_claim(self):
        for prime in (2, 5, 101):
            for places in range(6):
                table = [(3 * at * at + at + 1) % prime for at in range(2 ** places)]
                claim = self.keeps(table_claim, prime, table)
                self.assertEqual(claim.form, filling(prime, table))
                self.same((claim.degrees, claim.total), ((1,) * places, sum(table) % prime))
                for total in (0, prime - 1):
                    self.same(table_claim(prime, table, total).total, total)
                    self.same(table_claim(prime=prime, table=table, total=total).degrees, (1,) * places)
                self.assertEqual(table_claim(prime, table, None), claim)
        # The told degrees are 1 also where the form's are 0.
        self.same(table_claim(5, [2, 2]).degrees, (1,))
        self.same(table_claim(5, [0] * 4, 3).text(), "5 2 | 3 1.1")

    def test_wrong_tables(self):
        self.no_prime(lambda prime: table_claim(prime, [], "wrong"))
        for length in (0, 3, 5, 6, 7, 9, 31, 33, 64):
            self.error(WrongPlaces, table_claim, 5, [9] * length, "wrong")
        self.no_number(5, lambda number: table_claim(5, [0, number]))
        self.same(self.error(NotInField, table_claim, 5, [0, 8], 9).value, 8)
        self.no_number(5, lambda total: table_claim(5, [0, 1], total), none=False)


class Texts(Case):
    def test_example_of_the_document(self):
        claim = read_claim("5 2 3:0.1 1:2.0 | 4 2.1")
        self.assertEqual(claim, Claim(SECOND, degrees=[2, 1], total=4))
        self.same(claim.text(), "5 2 3:0.1 1:2.0 | 4 2.1")

    def test_read_back(self):
        for prime in (2, 5, 101):
            for places in range(6):
                for form in some_forms(prime, places):
                    for degrees in (None, [12] * places):
                        for total in (None, 0, prime - 1):
                            claim = Claim(form, degrees=degrees, total=total)
                            again = read_claim(text=claim.text())
                            self.assertEqual(again, claim)
                            self.same((again.degrees, again.total), (claim.degrees, claim.total))
                            self.same(again.text(), claim.text())

    def test_texts_that_differ_in_one_place(self):
        for text in ("5 2 3:0.1 1:2.0 | 4 2.1", "5 0 3:- | 4 -", "5 0 | 0 -", "2 1 | 1 12", "101 1 100:12 | 99 12"):
            self.reads_its_own(read_claim, written, text)

    def test_bad_texts(self):
        for text in ("", "|", " | ", "5 2 3:0.1", "5 2 3:0.1 | 4", "5 2 3:0.1 | 4 0.1 ", "5 2 3:0.1 |4 0.1",
                     "5 2 3:0.1| 4 0.1", "5 2 3:0.1 | 4 0.0", "5 2 3:0.1 | 5 0.1", "5 2 3:0.1 | 04 0.1",
                     "5 2 3:0.1 | 4 0.13", "5 2 3:0.1 | 4 0.1.0", "5 2 3:0.1 | 4 1", "5 2 3:0.1 | 4 -",
                     "5 2 3:0.1 | 4 0.1 | 4 0.1", "5 2 3:0.1 | | 4 0.1", "5 2 3:0.1 | 4 0.1\n", "5 2 3:0.1 |\n4 0.1",
                     "4 2 3:0.1 | 1 0.1", "5 2 1:2.0 3:0.1 | 4 2.1", "5 0 | 0", "5 0 | 0 0", "5 0 | 0 - -", "5 0 | - 0",
                     "5 1 | 0 " + "1" * 301, "5 1 | " + "1" * 301 + " 1", "5 1 | 0 1 " * 3000):
            with self.subTest(text[:30]):
                self.error(BadText, read_claim, text)
        for value in NO_TEXTS + (Claim(SECOND),):
            self.error(BadText, read_claim, value)
