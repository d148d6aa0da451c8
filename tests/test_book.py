"""Points [92] to [94] and the entry sumtalk/book.py."""

import itertools

from sumtalk import book
from sumtalk.book import Book, audit, replay, verdict_text
from sumtalk.claims import Claim
from sumtalk.errors import (BadName, BadText, DegreeTooHigh, NameTaken, NoSuchName, NotInField, NothingToRedo,
                            NothingToUndo, OtherField, OutOfRange, TooLarge, WrongPlaces)
from sumtalk.forms import Form, read_form
from sumtalk.journals import Journal
from sumtalk.judging import judge
from sumtalk.liars import Liar, best_paper
from sumtalk.polys import Poly
from sumtalk.tellers import Honest, talk
from helper import Case, HUGE, OTHER_KINDS

FORM = read_form("5 2 3:0.1 1:2.0")
OTHER = read_form("5 1 2:1")
FOREIGN = read_form("7 1 2:1")
CLAIM = Claim(FORM)
HONEST = talk(CLAIM, Honest(CLAIM), [2, 4])
BAD_NAMES = ("", "F", "1a", "a b", "a_b", "a" * 13, "-", "a-", "a\n", " a", "f.", None, 1, True, ["f"], b"f", ("f",),
             {})
FIVE = [("f", "form", "", "5 2 3:0.1 1:2.0", ""), ("c", "claim", "f", "5 2 3:0.1 1:2.0 | 3 2.1", ""),
        ("d", "claim", "f", "5 2 3:0.1 1:2.0 | 0 3.1", ""),
        ("j", "journal", "c", "5 3\n2 3.0.2\n4 4.3", "let by"), ("k", "journal", "d", "5 3\n2 3.0.2\n4 4.3", "0 total")]


def filled():
    """A book with the five entries."""
    own = Book(5)
    own.put_form("f", FORM)
    own.put_claim("c", "f")
    own.put_claim("d", "f", degrees=[3, 1], total=0)
    own.file_journal("j", "c", HONEST)
    own.file_journal("k", "d", HONEST)
    return own


def full():
    """A book with 100 entries."""
    own = filled()
    for at in range(95):
        own.put_form(f"n{at}", OTHER)
    return own


def state(own):
    """All that a book tells of itself, and what it would put back."""
    twin = own.twin()
    back = []
    while True:
        try:
            back.append(twin.redo())
        except NothingToRedo:
            return own.prime, own.size, own.entries(), list(own), back, twin.entries()


class Entries(Case):
    def refused(self, own, expected, call, *arguments, **named):
        """The error of a call that leaves the book as it was."""
        ahead = state(own)
        error = self.error(expected, call, *arguments, **named)
        self.same(state(own), ahead)
        return error

    def test_an_empty_book(self):
        own = Book(prime=5)
        self.same((own.prime, own.size, own.entries(), list(own)), (5, 0, [], []))
        self.assertIn("prime", vars(own))
        self.same("f" in own, False)
        self.no_prime(Book)

    def test_entries(self):
        own = filled()
        self.same((own.size, own.entries(), list(own)), (5, FIVE, FIVE))
        self.same([row for row in own], FIVE)
        self.new_list(own.entries)
        for name in "fcdjk":
            self.same(name in own, True)
        for name in BAD_NAMES + ("g", "ff", "claim", ("f", "form", "", "5 2 3:0.1 1:2.0", "")):
            self.same(name in own, False)

    def test_making_returns_what_is_told(self):
        own = Book(5)
        self.assertIsNone(own.put_form(name="f", form=FORM))
        self.assertIsNone(own.put_claim(name="c", of="f", degrees=(3, 2), total=1))
        self.same(own.file_journal(name="j", of="c", journal=HONEST), (0, "total"))
        self.assertIsNone(own.put_claim("t", "f", degrees=None, total=None))
        self.same(own.file_journal("l", "t", HONEST), (None, "let by"))
        self.same([row[3] for row in own][1], "5 2 3:0.1 1:2.0 | 1 3.2")
        self.assertRaises(TypeError, own.put_claim, "x", "f", [3, 2])

    def test_things_by_name(self):
        own = filled()
        self.assertEqual(own.form_named(name="f"), FORM)
        self.assertEqual(own.claim_named(name="c"), CLAIM)
        self.assertEqual(own.claim_named("d"), Claim(FORM, degrees=[3, 1], total=0))
        self.assertEqual(own.journal_named(name="j"), HONEST)
        self.same((own.verdict_of(name="j"), own.verdict_of("k")), ((None, "let by"), (0, "total")))
        for call, fine in ((own.form_named, "f"), (own.claim_named, "cd"), (own.journal_named, "jk"),
                           (own.verdict_of, "jk")):
            for name in ("f", "c", "d", "j", "k", "g", "true") + BAD_NAMES:
                if not isinstance(name, str) or name == "" or name not in fine:
                    self.assertIs(self.error(NoSuchName, call, name).name, name)

    def test_journals_that_are_not_let_by_are_filed(self):
        own = filled()
        false = own.claim_named("d")
        zero = Poly(5, [])
        liar = Liar(false, best_paper(false))
        for at, journal in enumerate((talk(false, liar, [0, 3]), talk(false, Honest(false), [2, 4]),
                                      Journal(5, 0, []), Journal(5, 0, [(zero, 0)] * 3), Journal(5, 1, []),
                                      Journal(5, 0, [(Poly(5, [0] * 5 + [1]), 3)]),
                                      Journal(5, 0, [(zero, 1), (zero, 2)]))):
            verdict = own.file_journal(f"n{at}", "d", journal)
            self.same(verdict, judge(false, journal))
            self.same(own.entries()[-1], (f"n{at}", "journal", "d", journal.text(), verdict_text(verdict)))
            self.same(own.verdict_of(f"n{at}"), verdict)
        self.same(own.audit(), 0)
        self.same([row[4] for row in own][5:], ["let by", "1 sum", "1 short", "3 long", "0 total", "1 degree",
                                                "3 look"])

    def test_verdict_text(self):
        for verdict, text in (((None, "let by"), "let by"), ((0, "total"), "0 total"), ((2, "sum"), "2 sum"),
                              ((1, "coin"), "1 coin"), ((0, "outputs"), "0 outputs"), ((33, "long"), "33 long"),
                              ((3, "primes"), "3 primes"), ((0, "count"), "0 count"), ([4, "line"], "4 line"),
                              ([None, "let by"], "let by")):
            self.same(verdict_text(verdict=verdict), text)

    def test_names(self):
        own = filled()
        for call in (lambda name: own.put_form(name, FOREIGN), lambda name: own.put_claim(name, "nobody"),
                     lambda name: own.file_journal(name, "nobody", FOREIGN)):
            for name in BAD_NAMES:
                self.assertIs(self.refused(own, BadName, call, name).name, name)
            for name in "fcdjk":
                self.same(self.refused(own, NameTaken, call, name).name, name)
        for name in ("a" * 12, "a1", "true", "form", "z9z9"):
            own.put_form(name, OTHER)
            self.same(name in own, True)

    def test_names_of_other_entries(self):
        own = filled()
        for of in ("c", "d", "j", "k", "g") + BAD_NAMES:
            error = self.refused(own, NoSuchName, own.put_claim, "x", of, degrees="wrong", total=9)
            self.assertIs(error.name, of)
        for of in ("f", "j", "k", "g") + BAD_NAMES:
            self.assertIs(self.refused(own, NoSuchName, own.file_journal, "x", of, Journal(7, 0, [])).name, of)

    def test_wrong_things(self):
        own = filled()
        self.refused(own, OtherField, own.put_form, "x", FOREIGN)
        self.refused(own, OtherField, own.file_journal, "x", "c", Journal(7, 0, []))
        for degrees in ([], [2], [2, 1, 0], ["wrong"] * 9):
            self.refused(own, WrongPlaces, own.put_claim, "x", "f", degrees=degrees, total=9)
        for degree in (-1, 13) + HUGE + OTHER_KINDS:
            self.refused(own, OutOfRange, own.put_claim, "x", "f", degrees=[2, degree], total=9)
        for total in (-1, 5, True, "1"):
            self.same(self.refused(own, NotInField, own.put_claim, "x", "f", degrees=[0, 0], total=total).value, total)
        self.refused(own, DegreeTooHigh, own.put_claim, "x", "f", degrees=[1, 1])
        self.refused(own, DegreeTooHigh, own.put_claim, "x", "f", degrees=[2, 0], total=4)

    def test_100_entries(self):
        own = full()
        self.same(own.size, 100)
        self.refused(own, TooLarge, own.put_form, "x", OTHER)
        self.refused(own, TooLarge, own.put_claim, "x", "f")
        self.refused(own, TooLarge, own.file_journal, "x", "c", HONEST)
        # It is told behind all else.
        self.refused(own, BadName, own.put_form, "X", OTHER)
        self.refused(own, NameTaken, own.put_form, "n7", OTHER)
        self.refused(own, OtherField, own.put_form, "x", FOREIGN)
        self.refused(own, NoSuchName, own.put_claim, "x", "g")
        self.refused(own, DegreeTooHigh, own.put_claim, "x", "f", degrees=[0, 0])
        self.refused(own, OtherField, own.file_journal, "x", "c", Journal(7, 0, []))
        self.same(own.undo(), "n94")
        self.same(own.size, 99)
        own.put_claim("x", "f")
        self.same((own.size, own.entries()[99][0]), (100, "x"))
        self.refused(own, TooLarge, own.put_form, "y", OTHER)

    def test_a_full_book_keeps_what_is_aside(self):
        own = full()
        own.undo()
        own.undo()
        self.refused(own, NoSuchName, own.put_claim, "x", "g")
        self.refused(own, BadName, own.put_form, "X", OTHER)
        self.same([own.redo(), own.redo()], ["n93", "n94"])
        self.refused(own, NothingToRedo, own.redo)

    def test_things_are_defined_in_their_places(self):
        for name in ("__init__", "size", "__contains__", "__iter__", "entries", "put_form", "put_claim", "file_journal",
                     "form_named", "claim_named", "journal_named", "verdict_of", "undo", "redo", "twin", "differences",
                     "audit"):
            self.assertIn(name, vars(Book))
        self.assertIsInstance(vars(Book)["size"], property)
        for thing in (Book, audit, replay, verdict_text):
            self.same(thing.__module__, "sumtalk.book")
            self.assertIs(getattr(book, thing.__name__), thing)


class Undoing(Case):
    def test_undo_and_redo(self):
        own = filled()
        self.same([own.undo() for _ in range(5)], ["k", "j", "d", "c", "f"])
        self.same((own.size, own.entries()), (0, []))
        self.error(NothingToUndo, own.undo)
        self.error(NothingToUndo, Book(5).undo)
        self.same([own.redo() for _ in range(3)], ["f", "c", "d"])
        self.same(own.entries(), FIVE[:3])
        self.same(own.undo(), "d")
        self.same([own.redo(), own.redo(), own.redo()], ["d", "j", "k"])
        self.same(own.entries(), FIVE)
        self.same(own.verdict_of("k"), (0, "total"))
        self.assertEqual(own.journal_named("j"), HONEST)
        self.error(NothingToRedo, own.redo)
        self.error(NothingToRedo, Book(5).redo)

    def test_a_new_entry_empties_what_is_put_aside(self):
        for make in (lambda own: own.put_form("x", OTHER), lambda own: own.put_claim("x", "f"),
                     lambda own: own.file_journal("x", "c", HONEST)):
            own = filled()
            own.undo()
            own.undo()
            make(own)
            self.error(NothingToRedo, own.redo)
            self.same([row[0] for row in own], ["f", "c", "d", "x"])
            self.same([own.undo(), own.undo(), own.redo(), own.redo()], ["x", "d", "d", "x"])

    def test_a_name_that_is_taken_out_is_free(self):
        own = filled()
        own.undo()
        self.same("k" in own, False)
        self.error(NoSuchName, own.journal_named, "k")
        own.put_form("k", OTHER)
        self.assertEqual(own.form_named("k"), OTHER)
        self.error(NoSuchName, own.verdict_of, "k")
        self.same(own.entries(), FIVE[:4] + [("k", "form", "", "5 1 2:1", "")])
        own.undo()
        self.same(own.redo(), "k")
        self.assertEqual(own.form_named("k"), OTHER)


class Twins(Case):
    def test_a_twin_shares_no_later_change(self):
        own = filled()
        own.undo()
        own.undo()
        ahead = state(own)
        twin = own.twin()
        self.assertIsInstance(twin, Book)
        self.same(state(twin), ahead)
        twin.redo()
        self.same((state(own), twin.size), (ahead, 4))
        twin.put_form("x", OTHER)
        self.same(state(own), ahead)
        self.same("x" in own, False)
        twin = own.twin()
        own.redo()
        own.undo()
        own.undo()
        own.put_form("y", OTHER)
        self.same(state(twin), ahead)
        self.same("y" in twin, False)
        self.same([twin.redo(), twin.redo()], ["j", "k"])
        self.assertEqual(twin.claim_named("c"), CLAIM)

    def test_differences(self):
        own, other = filled(), filled()
        self.same(own.differences(other), [])
        self.same(own.differences(own), [])
        other.undo()
        self.same((own.differences(other=other), other.differences(own)), (["k"], ["k"]))
        other.put_form("k", OTHER)
        self.same(own.differences(other), ["k"])
        self.same(own.differences(Book(5)), ["c", "d", "f", "j", "k"])
        self.same(Book(5).differences(own), ["c", "d", "f", "j", "k"])
        self.new_list(own.differences, other)
        self.error(OtherField, own.differences, Book(7))

    def test_order_and_what_is_put_aside_are_not_compared(self):
        own, other = Book(5), Book(5)
        for name in ("a", "b", "c"):
            own.put_form(name, OTHER)
        for name in ("c", "a", "b", "d"):
            other.put_form(name, OTHER)
        self.same(own.differences(other), ["d"])
        other.undo()
        self.same((own.differences(other), other.differences(own)), ([], []))

    def test_order_of_names(self):
        own, other = Book(5), Book(5)
        names = ["b", "a1", "a", "ab", "a0b", "a10", "a2", "z", "b0"]
        for at, name in enumerate(names):
            (own, other)[at % 2].put_form(name, OTHER)
        expected = ["a", "a0b", "a1", "a10", "a2", "ab", "b", "b0", "z"]
        self.same((own.differences(other), other.differences(own)), (expected, expected))

    def test_each_text_is_compared(self):
        own, other = filled(), Book(5)
        other.put_form("f", FORM)
        other.put_claim("c", "f", degrees=[2, 2])
        other.put_claim("d", "f", degrees=[3, 1], total=0)
        other.file_journal("j", "d", HONEST)
        other.file_journal("k", "d", HONEST)
        self.same(own.differences(other), ["c", "j"])
        one, two = Book(5), Book(5)
        for own in (one, two):
            own.put_form("f", FORM)
            own.put_form("g", FORM)
        one.put_claim("c", "f")
        two.put_claim("c", "g")
        self.same(one.differences(two), ["c"])


class Audits(Case):
    def test_replay(self):
        for entries in (FIVE, tuple(FIVE), [list(row) for row in FIVE], filled().entries()):
            own = replay(prime=5, entries=entries)
            self.assertIsInstance(own, Book)
            self.same(own.entries(), FIVE)
            self.same((own.verdict_of("k"), own.size), ((0, "total"), 5))
            self.assertEqual(own.claim_named("d"), filled().claim_named("d"))
            self.error(NothingToRedo, own.redo)
            self.same(audit(prime=5, entries=entries), 0)
        self.same((replay(7, []).entries(), replay(7, ()).prime, audit(7, [])), ([], 7, 0))
        self.no_prime(lambda prime: replay(prime, FIVE))
        self.no_prime(lambda prime: audit(prime, FIVE))

    def test_a_row_that_is_changed_behind_the_call(self):
        rows = [list(row) for row in FIVE]
        own = replay(5, rows)
        self.same(rows, [list(row) for row in FIVE])
        rows[0][0] = "x"
        rows.pop()
        self.same(own.entries(), FIVE)

    def test_own_audit(self):
        for own in (Book(5), filled(), full()):
            self.same(own.audit(), 0)
            self.same(audit(5, own.entries()), 0)
        own.undo()
        self.same(own.audit(), 0)

    def test_longest_entries(self):
        own = Book(101)
        form = Form(101, 5, [(row, 100) for row in sorted(itertools.product(range(13), repeat=5), reverse=True)[:1024]])
        own.put_form("f", form)
        own.put_claim("c", "f", degrees=[12] * 5)
        own.file_journal("j", "c", Journal(101, 100, [(Poly(101, [100] * 128), 100)] * 32))
        self.assertGreater(len(own.entries()[0][3]), 15000)
        self.same(own.audit(), 0)

    def test_any_one_text_exchanged(self):
        texts = ["", "f", "c", "d", "j", "g", "form", "claim", "journal", "5 2 3:0.1 1:2.0", "5 2", "7 2 3:0.1 1:2.0",
                 "5 2 3:0.1 1:2.0 | 3 2.1", "5 2 3:0.1 1:2.0 | 0 3.1", "7 2 3:0.1 1:2.0 | 3 2.1", "5 2 | 3 2.1",
                 "5 3\n2 3.0.2\n4 4.3", "5 0", "7 3", "let by", "0 total", "1 sum", "3 look", "wrong", "Form", "x y"]
        for at, part in itertools.product(range(5), range(5)):
            for text in texts:
                rows = [list(row) for row in FIVE]
                if rows[at][part] == text:
                    continue
                rows[at][part] = text
                found = audit(5, rows)
                self.same(found, self.plain_audit(rows))
                if found == 0:
                    self.same(replay(5, rows).entries(), [tuple(row) for row in rows])
                else:
                    try:
                        replay(5, rows)
                    except Exception as error:
                        self.assertEqual(type(error).__module__, "sumtalk.errors")
                    else:
                        self.fail("no error")

    def plain_audit(self, rows):
        """The audit, with the few texts that can be read in a dict."""
        good = Book(5)
        forms = {FORM.text(): FORM, "5 2": Form(5, 2, []), "5 0": Form(5, 0, [])}
        journals = {HONEST.text(): HONEST, "5 0": Journal(5, 0, []), "5 2": Journal(5, 2, [])}
        for number, row in enumerate(rows, 1):
            name, kind, of, text, _ = row
            try:
                if kind == "form":
                    good.put_form(name, forms[text])
                elif kind == "claim":
                    told = text.split("| ")[1].split(" ")
                    good.put_claim(name, of, degrees=[int(degree) for degree in told[1].split(".")], total=int(told[0]))
                elif kind == "journal":
                    good.file_journal(name, of, journals[text])
            except (ValueError, IndexError, KeyError):
                return number
            if kind not in ("form", "claim", "journal") or good.entries()[-1] != tuple(row):
                return number
        return 0

    def test_errors_of_replay(self):
        form, claim, journal = list(FIVE[0]), list(FIVE[1]), list(FIVE[3])

        def exchanged(row, part, text):
            row = list(row)
            row[part] = text
            return row

        for rows, expected in (
                ([exchanged(form, 1, "poly")], BadText), ([exchanged(form, 1, "")], BadText),
                ([exchanged(form, 3, "5 2 3:0.1 1:2.0 ")], BadText), ([exchanged(form, 0, "F")], BadName),
                ([exchanged(form, 3, "7 2 3:0.1")], OtherField), ([exchanged(form, 2, "f")], BadText),
                ([exchanged(form, 4, "let by")], BadText), ([form, form], NameTaken),
                ([form, exchanged(claim, 2, "g")], NoSuchName), ([form, exchanged(claim, 0, "f")], NameTaken),
                ([form, exchanged(claim, 0, "")], BadName), ([form, exchanged(claim, 3, "wrong")], BadText),
                ([form, exchanged(claim, 4, "let by")], BadText), ([claim], NoSuchName),
                # The prime of a claim's text is only compared, its total is one of the book's field.
                ([form, exchanged(claim, 3, "7 2 3:0.1 1:2.0 | 3 2.1")], BadText),
                ([form, exchanged(claim, 3, "7 2 3:0.1 1:2.0 | 6 2.1")], NotInField),
                ([form, exchanged(claim, 3, "5 2 3:0.1 | 3 2.1")], BadText),
                ([form, exchanged(claim, 3, "5 2 3:0.1 | 3 1.1")], DegreeTooHigh),
                ([form, exchanged(claim, 3, "5 1 3:1 | 3 1")], WrongPlaces),
                ([form, claim, exchanged(journal, 2, "f")], NoSuchName),
                ([form, claim, exchanged(journal, 3, "7 3")], OtherField),
                ([form, claim, exchanged(journal, 3, "5 3\n")], BadText),
                ([form, claim, exchanged(journal, 4, "3 look")], BadText),
                ([form, claim, exchanged(journal, 4, "")], BadText),
                # The kind is looked at first, then the text is read, and then the entry is made.
                ([form, claim, ["F", "poly", "g", "5 3", ""]], BadText),
                ([["F", "poly", "g", "wrong", ""]], BadText), ([["F", "form", "g", "wrong", ""]], BadText),
                ([["F", "form", "g", "7 0", ""]], BadName), ([form, ["F", "claim", "g", "7 0 | 0 -", ""]], BadName),
                ([form, ["f", "claim", "g", "7 0 | 0 -", ""]], NameTaken)):
            self.error(expected, replay, 5, rows)
            self.same(audit(5, rows), len(rows))
            # Later rows are not looked at.
            self.same(audit(5, rows + [form, ["", "", "", "", ""]]), len(rows))
        self.same(self.error(NoSuchName, replay, 5, [claim]).name, "f")

    def test_the_first_wrong_row(self):
        wrong = ("x", "form", "", "5 2 ", "")
        for at in range(5):
            rows = FIVE[:at] + [wrong] + FIVE[at:]
            self.same(audit(5, rows), at + 1)
            self.error(BadText, replay, 5, rows)
            self.same(audit(5, rows + [wrong]), at + 1)

    def test_more_than_100_rows(self):
        rows = full().entries()
        self.same((audit(5, rows), replay(5, rows).size), (0, 100))
        more = ("x", "form", "", "5 1 2:1", "")
        for many in (1, 2, 50):
            self.same(audit(5, rows + [more] * many), 101)
            self.error(TooLarge, replay, 5, rows + [more] * many)
        self.same(audit(5, rows[:50] + [more, more] + rows[50:]), 52)
        self.same(audit(7, rows), 1)
