"""Points [95] to [98] and the entry sumtalk/script.py."""

from sumtalk import errors, script
from sumtalk.book import Book, verdict_text
from sumtalk.circuits import circuit_values
from sumtalk.claims import Claim
from sumtalk.counts import liar_share
from sumtalk.errors import BadRow, NothingToRedo, NothingToUndo, TooLarge
from sumtalk.forms import read_form
from sumtalk.formulas import models, read_formula
from sumtalk.journals import Journal
from sumtalk.judging import judge
from sumtalk.liars import Liar, best_paper
from sumtalk.polys import Poly
from sumtalk.script import Desk, check_transcript, transcript
from sumtalk.tellers import Honest, talk
from helper import Case
from layer_helper import CIRCUITS, some_numbers

START = "form f 2 3:0.1 1:2.0\nclaim c f true\nclaim d f 0 3.1"
FORM = read_form("5 2 3:0.1 1:2.0")
TRUE = Claim(FORM)
FALSE = Claim(FORM, degrees=[3, 1], total=0)


def started(prime=5):
    desk = Desk(prime)
    desk.run(START)
    return desk


def state(desk):
    """The book's entries, and the names that it would put back."""
    twin = desk.book.twin()
    back = []
    while True:
        try:
            back.append(twin.redo())
        except NothingToRedo:
            return desk.book.entries(), back


class ScriptCase(Case):
    def does(self, row, output, desk=None):
        """The row has this output, alone and within a longer script."""
        desk = started() if desk is None else desk
        self.same(desk.run(text=row), [output])
        return desk

    def fails(self, row, cause, desk=None):
        """The row fails for this cause, and leaves the book as it was."""
        self.assertTrue(issubclass(getattr(errors, cause), errors.TalkError))
        desk = started() if desk is None else desk
        ahead = state(desk)
        own = desk.book
        error = self.error(BadRow, desk.run, row)
        self.same((error.row, error.cause), (1, cause))
        self.same(state(desk), ahead)
        self.assertIs(desk.book, own)


class Desks(ScriptCase):
    def test_attributes(self):
        desk = Desk(prime=7)
        self.same((desk.prime, desk.book.prime, desk.book.size), (7, 7, 0))
        self.assertIsInstance(desk.book, Book)
        self.assertLessEqual({"prime", "book"}, set(vars(desk)))
        self.no_prime(Desk)

    def test_a_new_list_of_outputs(self):
        desk = started()
        self.same(desk.run("count 1 x1\n\naudit"), ["1", "", "0"])
        desk.run("audit").append("changed")
        self.same(desk.run("audit"), ["0"])

    def test_rows_of_a_script(self):
        desk = Desk(5)
        self.same(desk.run(""), [""])
        self.same(desk.run("\n"), ["", ""])
        self.same(desk.run("\n\ncount 0 true\n"), ["", "", "1", ""])
        self.same(desk.run(START), ["form f", "true", "false"])
        self.same([row[0] for row in desk.book], ["f", "c", "d"])
        # The book is kept from run to run.
        own = desk.book
        self.same(desk.run("talk t c 2.4"), ["let by"])
        self.assertIs(desk.book, own)
        self.same(own.size, 4)

    def test_number_of_rows(self):
        desk = Desk(5)
        self.same(desk.run("\n" * 99), [""] * 100)
        self.error(TooLarge, desk.run, "\n" * 100)
        self.error(TooLarge, desk.run, "form f 0\n" * 100)
        self.same(desk.book.size, 0)
        rows = ["form f 0"] + ["audit"] * 99
        self.same(desk.run("\n".join(rows)), ["form f"] + ["0"] * 99)

    def test_number_of_characters(self):
        desk = Desk(5)
        for many in (19999, 20000):
            error = self.error(BadRow, desk.run, "a" * many)
            self.same((error.row, error.cause), (1, "BadText"))
        self.error(TooLarge, desk.run, "a" * 20001)
        self.error(TooLarge, desk.run, "form f 0\n" + "a" * 20000)
        self.same(desk.book.size, 0)
        # Newlines count, too. Without WORDs an each row looks at nothing else, however long it is.
        text = "form f 0\n\n\neach : "
        longest = text + "a" * (20000 - len(text))
        self.error(TooLarge, desk.run, longest + "a")
        self.same(desk.book.size, 0)
        self.same(desk.run(longest), ["form f", "", "", ""])

    def test_a_failed_row(self):
        desk = Desk(5)
        error = self.error(BadRow, desk.run, START + "\n\nclaim c f true\nform g 0")
        self.same((error.row, error.cause), (5, "NameTaken"))
        self.same([row[0] for row in desk.book], ["f", "c", "d"])
        # Rows are counted from 1 in each run.
        error = self.error(BadRow, desk.run, "audit\nundo x")
        self.same((error.row, error.cause), (2, "BadText"))
        for row in range(1, 101):
            text = "\n" * (row - 1) + "nothing" + "\n" * (100 - row)
            self.same(self.error(BadRow, desk.run, text).row, row)

    def test_things_are_defined_in_their_places(self):
        for name in ("__init__", "run"):
            self.assertIn(name, vars(Desk))
        for thing in (Desk, check_transcript, transcript):
            self.same(thing.__module__, "sumtalk.script")
            self.assertIs(getattr(script, thing.__name__), thing)


class Rows(ScriptCase):
    def test_words(self):
        for row in (" ", "  ", " audit", "audit ", "audit  ", "form  f 0", "form f 0 ", "each  : audit",
                    "each a : audit ", "each a : share  c", "nothing ", "nothing", "Form f 0", "FORM f 0", "form", "0",
                    "formf 0", "form:", ":", "@", "=>", "audit x", "undo 1", "redo redo", "share", "share c d",
                    "form f", "claim", "claim x", "claim x f", "claim x f 0 2.1 0", "talk", "talk x", "talk x c",
                    "talk x c 1.1 1",
                    "liar x c", "liar x c 1.1 1", "journal", "journal x", "journal x c", "count", "circuit", "\tform"):
            self.fails(row, "BadText")

    def test_form(self):
        for row, text in (("form g 0", "5 0"), ("form g 5", "5 5"), ("form g 2 3:0.1 1:2.0", "5 2 3:0.1 1:2.0"),
                          ("form g 0 3:-", "5 0 3:-"), ("form claim 1 4:12", "5 1 4:12")):
            name = row.split(" ")[1]
            desk = self.does(row, f"form {name}")
            self.same(desk.book.entries()[-1], (name, "form", "", text, ""))
        self.same(Desk(101).run("form f 1 100:3"), ["form f"])
        # All that is wrong in its PLACES and TERMs is a form that cannot be read.
        for row in ("form g 6", "form g 02", "form g -", "form g x", "form g 1 5:1", "form g 1 1:13", "form g 1 0:1",
                    "form g 1 1:1 1:1", "form g 1 1:2 1:1", "form g 1 1:1.1", "form g 1 1", "form g 1 01:1",
                    "form g 1 1:01", "form g 1 1:-", "form g 5 |", "form g 1:1", "form G 6", "form f 6"):
            self.fails(row, "BadText")
        self.fails("form G 1", "BadName")
        self.fails("form abcdefghijklm 1", "BadName")
        self.fails("form - 1", "BadName")
        self.fails("form c 1", "NameTaken")

    def test_claim(self):
        for row, output, text in (("claim x f true", "true", "3 2.1"), ("claim x f 3", "true", "3 2.1"),
                                  ("claim x f 4", "false", "4 2.1"), ("claim x f 0 12.1", "false", "0 12.1"),
                                  ("claim x f true 3.3", "true", "3 3.3"), ("claim true f true", "true", "3 2.1")):
            desk = self.does(row, output)
            name = row.split(" ")[1]
            self.same(desk.book.entries()[-1], (name, "claim", "f", f"5 2 3:0.1 1:2.0 | {text}", ""))
        desk = Desk(5)
        desk.run("form z 0 2:-")
        self.same(desk.run("claim a z true\nclaim b z 2 -\nclaim e z 1 -"), ["true", "true", "false"])
        for row, cause in (("claim x f True", "BadText"), ("claim x f 03", "BadText"), ("claim x f -", "BadText"),
                           ("claim x f 3 02.1", "BadText"), ("claim x f 3 2,1", "BadText"),
                           ("claim x f true true", "BadText"), ("claim x f " + "1" * 301, "BadText"),
                           ("claim x f " + "1" * 300, "NotInField"), ("claim x f 5", "NotInField"),
                           ("claim x f 0 -", "WrongPlaces"), ("claim x f 0 2", "WrongPlaces"),
                           ("claim x f 0 2.13", "OutOfRange"), ("claim x f 0 1.1", "DegreeTooHigh"),
                           ("claim X f 0", "BadName"), ("claim d f 0", "NameTaken"), ("claim x g 0", "NoSuchName"),
                           ("claim x c 0", "NoSuchName"), ("claim x 3 0", "NoSuchName"), ("claim x F 0", "NoSuchName"),
                           # Looked up and read from left to right, then done.
                           ("claim x g 00", "NoSuchName"), ("claim X g 0", "NoSuchName"), ("claim X f 00", "BadText"),
                           ("claim X f 0 00", "BadText"), ("claim d f 9", "NameTaken"),
                           ("claim x f 9 2", "WrongPlaces"), ("claim x f 9 1.1", "NotInField")):
            self.fails(row, cause)

    def test_talk_and_liar(self):
        for name, claim in (("c", TRUE), ("d", FALSE)):
            for word, coins in (("2.4", [2, 4]), ("0.0", [0, 0]), ("0.3", [0, 3]), ("4.1", [4, 1])):
                for first, teller in (("talk", Honest(claim)), ("liar", Liar(claim, best_paper(claim)))):
                    journal = talk(claim, teller, coins)
                    verdict = judge(claim, journal)
                    desk = self.does(f"{first} x {name} {word}", verdict_text(verdict))
                    self.same(desk.book.entries()[-1], ("x", "journal", name, journal.text(), verdict_text(verdict)))
        desk = Desk(5)
        desk.run("form z 0 2:-\nclaim a z 1")
        self.same(desk.run("talk t a -\nliar l a -"), ["1 look", "1 look"])
        for first in ("talk", "liar"):
            for row, cause in (("x c 2", "WrongPlaces"), ("x c -", "WrongPlaces"), ("x c 2.4.1", "WrongPlaces"),
                               ("x c 2.5", "NotInField"), ("x c 2.04", "BadText"), ("x c 2.", "BadText"),
                               ("x c 2:4", "BadText"), ("x c true", "BadText"), ("X c 2.4", "BadName"),
                               ("f c 2.4", "NameTaken"), ("x f 2.4", "NoSuchName"), ("x g 2.4", "NoSuchName"),
                               ("x 2.4 c", "NoSuchName"), ("x g 2.04", "NoSuchName"), ("X g 2.4", "NoSuchName"),
                               ("X c 2.04", "BadText"),
                               # The talk is made first, then it is filed.
                               ("X c 2", "WrongPlaces"), ("f c 2.5", "NotInField"), ("X c 2.5", "NotInField")):
                self.fails(f"{first} {row}", cause)

    def test_journal(self):
        for words, rounds, total in (
                ("3 2:3.0.2 4:4.3", [([3, 0, 2], 2), ([4, 3], 4)], 3), ("0", [], 0), ("1 0:-", [([], 0)], 1),
                ("3 2:3.0.2 4:- 0:1", [([3, 0, 2], 2), ([], 4), ([1], 0)], 3),
                ("0 0:0.0.0.0.0.1", [([0] * 5 + [1], 0)], 0), ("0 0:-", [([], 0)], 0)):
            for name, claim in (("c", TRUE), ("d", FALSE)):
                journal = Journal(5, total, [(Poly(5, row), coin) for row, coin in rounds])
                written = verdict_text(judge(claim, journal))
                desk = self.does(f"journal x {name} {words}", written)
                self.same(desk.book.entries()[-1], ("x", "journal", name, journal.text(), written))
        self.does("journal x c 3" + " 0:-" * 32, "1 sum")
        ones = "1." * 127 + "1"
        self.does(f"journal x c 3 0:{ones}", "1 degree")
        for row, cause in (("x c true", "BadText"), ("x c 03", "BadText"), ("x c -", "BadText"),
                           ("x c 3 2", "BadText"), ("x c 3 2:", "BadText"), ("x c 3 :2", "BadText"),
                           ("x c 3 :", "BadText"), ("x c 3 2:3.0", "BadText"), ("x c 3 2:0", "BadText"),
                           ("x c 3 2:3:1", "BadText"), ("x c 3 02:3", "BadText"), ("x c 3 2:03", "BadText"),
                           ("x c 3 -:3", "BadText"), ("x c 3 2.1:3", "BadText"), ("x c 3 2:--", "BadText"),
                           ("x c 3 2:3 3", "BadText"), ("x c 5", "NotInField"), ("x c 3 5:3", "NotInField"),
                           ("x c 3 3:5", "NotInField"), ("x c 3 0:1." + ones, "TooLarge"),
                           ("x c 3" + " 0:-" * 33, "TooLarge"), ("x g 3", "NoSuchName"), ("x f 3", "NoSuchName"),
                           ("x c: 3", "NoSuchName"), ("X c 3", "BadName"), ("c c 3", "NameTaken"),
                           # Looked up and read from left to right.
                           ("x g 03", "NoSuchName"), ("x c 03 0:9", "BadText"), ("X c 3 0:0", "BadText"),
                           # The polynomials are made first, in order, then the journal, then it is filed.
                           ("X c 9", "NotInField"), ("c c 3 0:9", "NotInField"),
                           ("x c 9 0:1." + ones, "TooLarge"), ("x c 3 0:9 0:1." + ones, "NotInField"),
                           ("x c 3 0:1." + ones + " 0:9", "TooLarge"), ("x c 9" + " 0:-" * 33, "NotInField"),
                           ("X c 3" + " 0:-" * 33, "TooLarge"), ("x c 3" + " 9:-" * 33, "TooLarge"),
                           ("x c 3 9:-" + " 0:6" * 33, "NotInField")):
            self.fails(f"journal {row}", cause)

    def test_share(self):
        desk = self.does("share d", liar_share(FALSE).text())
        self.same(desk.run("share c"), ["1/1"])
        for row in ("share f", "share g", "share 1", "share C", "share -"):
            self.fails(row, "NoSuchName")

    def test_count(self):
        for text, places in (("true", 0), ("false", 5), ("or x1 x2", 2), ("x5", 5), ("and x1 not x2", 4),
                             ("xor x1 xor x2 x3", 3), ("not " * 23 + "true", 1)):
            self.does(f"count {places} {text}", str(len(models(read_formula(text), places))))
        for row, cause in (("count 2", "BadText"), ("count true", "BadText"), ("count 02 x1", "BadText"),
                           ("count - x1", "BadText"), ("count 2 x6", "BadText"), ("count 2 or x1", "BadText"),
                           ("count 2 x1 x2", "BadText"), ("count 2 X1", "BadText"), ("count 6 x9", "BadText"),
                           ("count 2 " + "not " * 24 + "true", "BadText"), ("count 6 x1", "OutOfRange"),
                           ("count " + "9" * 300 + " x1", "OutOfRange"), ("count " + "9" * 301 + " x1", "BadText"),
                           ("count 1 x2", "OutOfRange"), ("count 0 x1", "OutOfRange")):
            self.fails(row, cause)

    def test_circuit(self):
        for prime in (2, 101):
            for circuit in CIRCUITS:
                inputs = some_numbers(prime, circuit.width, 2)
                words = [".".join(map(str, inputs))]
                words += ["+".join(".".join(map(str, gate)) for gate in layer) for layer in circuit.layers]
                expected = ".".join(map(str, circuit_values(circuit, prime, inputs)[0]))
                self.same(Desk(prime).run("circuit " + " ".join(words)), [expected])
        self.does("circuit 4", "4")
        self.does("circuit 4.1.0.2", "4.1.0.2")
        for row, cause in (("-", "NotCircuit"), ("1.1.1", "NotCircuit"), ("1.1 mul.0.2", "NotCircuit"),
                           ("1.1 mul.0.1+add.0.0+add.0.0", "NotCircuit"), ("5", "NotInField"),
                           ("1.1" + " add.0.0" * 5, "TooLarge"), ("1.1.1" + " add.0.0" * 5, "TooLarge"),
                           ("1.9 mul.0.2", "NotCircuit"), ("9.9.9" + " add.0.0" * 4, "NotCircuit"),
                           ("1.9 mul.0.1", "NotInField"), ("9" + " add.0.0" * 4, "NotInField"),
                           ("01", "BadText"), ("1,1", "BadText"), ("1.1 mul", "BadText"), ("1.1 mul.0", "BadText"),
                           ("1.1 mul.0.1.0", "BadText"), ("1.1 sub.0.1", "BadText"), ("1.1 mul.0.01", "BadText"),
                           ("1.1 mul.0.-", "BadText"), ("1.1 mul.0.1+", "BadText"), ("1.1 +mul.0.1", "BadText"),
                           ("1.1 mul.0.1++add.0.1", "BadText"), ("1.1 mul:0:1", "BadText"), ("mul.0.1 1.1", "BadText"),
                           ("1.1 0.mul.1", "BadText"), ("1.1 -", "BadText"), ("1.1 mul.0." + "1" * 301, "BadText"),
                           ("1.1 mul.0." + "1" * 300, "NotCircuit"), ("1.1.1 sub.0.1", "BadText"),
                           ("1" + " add.0.0" * 4 + " add.0", "BadText")):
            self.fails(f"circuit {row}", cause)

    def test_undo_redo_and_audit(self):
        desk = started()
        self.same(desk.run("undo\nundo\nredo\nundo\nundo"), ["undo d", "undo c", "redo c", "undo c", "undo f"])
        self.fails("undo", "NothingToUndo", desk)
        self.same(desk.run("redo\nredo\nredo\naudit"), ["redo f", "redo c", "redo d", "0"])
        self.fails("redo", "NothingToRedo", desk)
        desk.run("undo\nundo")
        # A refused deed leaves also what is put aside as it was.
        self.fails("form f 1", "NameTaken", desk)
        self.fails("claim x f 9", "NotInField", desk)
        self.same(desk.run("redo\nundo\nform g 1"), ["redo c", "undo c", "form g"])
        self.fails("redo", "NothingToRedo", desk)
        self.error(NothingToRedo, desk.book.redo)
        self.error(NothingToUndo, Desk(5).book.undo)

    def test_a_full_book(self):
        desk = started()
        for start in (0, 50):
            desk.run("\n".join(f"form n{start + at} 0" for at in range(50 if start == 0 else 47)))
        self.same(desk.book.size, 100)
        for row in ("form x 0", "claim x f 0", "talk x c 2.4", "journal x c 3"):
            self.fails(row, "TooLarge", desk)
        self.fails("form X 0", "BadName", desk)
        self.same(desk.run("audit\nundo\nform x 0\naudit"), ["0", "undo n96", "form x", "0"])

    def test_changes_by_the_caller(self):
        desk = Desk(5)
        desk.book.put_form("f", FORM)
        self.same(desk.run("claim c f true\nundo\nundo"), ["true", "undo c", "undo f"])
        self.same(desk.book.redo(), "f")


class Each(ScriptCase):
    def test_each(self):
        desk = self.does("each 1 2 0 : talk t@ c @.@", "let by; let by; let by")
        self.same([row[0] for row in desk.book][3:], ["t1", "t2", "t0"])
        self.same([desk.book.journal_named(name).coins for name in ("t1", "t2", "t0")], [(1, 1), (2, 2), (0, 0)])
        self.does("each a : form @@@ 0", "form aaa")
        self.does("each a b : count 0 true", "1; 1")
        self.does("each undo audit : @", "undo d; 0")
        self.does("each : audit", "")
        self.does("each x1 x2 : count 2 and @ not @", "0; 0")
        self.does("each 1.4 2.3 : circuit @ mul.0.1", "4; 1")
        self.does("each c d d : share @", "; ".join([liar_share(claim).text() for claim in (TRUE, FALSE, FALSE)]))

    def test_replacing_is_done_once(self):
        self.does("each @ : count 0 true", "1")
        self.fails("each a@ : form @ 0", "BadName")
        desk = started()
        error = self.error(BadRow, desk.run, "each x@y : @ @")
        self.same((error.row, error.cause), (1, "BadText"))
        # A WORD with a mark is put in as it is: a@ is no name of an entry.
        self.fails("each c@ : share @", "NoSuchName")

    def test_the_first_colon_ends_the_words(self):
        self.fails("each a : : audit", "BadText")
        self.fails("each a : form b@ 1 : 1:1", "BadText")
        self.does("each : : audit", "")
        self.does("each : audit : audit", "")
        self.fails("each a: :b c : audit x", "BadText")
        self.does("each a: :b c : audit", "0; 0; 0")

    def test_with_no_words_nothing_else_is_looked_at(self):
        for row in ("nothing", "undo undo", "@", ":", "form f 0", "share nobody", "circuit", "a each"):
            self.does(f"each : {row}", "")
        for row in ("each : each", "each : each x : audit", "each :", "each", "each a b", "each a b audit"):
            self.fails(row, "BadText")

    def test_wrong_each_rows(self):
        for row in ("each a :", "each a : each b : audit", "each a audit", "each a : nothing", "each a :audit",
                    "each a: audit", "each a : audit x", "each a  : audit", "each a : @ x", "each each : @ a : audit",
                    "each audit each : @"):
            self.fails(row, "BadText")
        # A missing colon, an empty ROW and another each are told ahead of the number of WORDs.
        words = " ".join("abcdefghijklmnopqrstu")
        for row in (f"each {words}", f"each {words} :", f"each {words} : each a : audit"):
            self.fails(row, "BadText")

    def test_number_of_words(self):
        words = list("abcdefghijklmnopqrst")
        self.does(f"each {' '.join(words)} : count 0 true", "; ".join(["1"] * 20))
        desk = self.does(f"each {' '.join(words)} : form x@ 0", "; ".join(f"form x{word}" for word in words))
        self.same(desk.book.size, 23)
        for row in ("count 0 true", "form x@ 0", "nothing", "@ @"):
            self.fails(f"each {' '.join(words)} u : {row}", "TooLarge")

    def test_a_row_that_fails_in_the_middle(self):
        desk = started()
        desk.run("undo")
        ahead = state(desk)
        for row, cause in (("each x y c z : form @ 0", "NameTaken"), ("each x y X : form @ 0", "BadName"),
                           ("each undo redo undo nothing : @", "BadText"), ("each undo undo undo : @", "NothingToUndo"),
                           ("each redo redo : @", "NothingToRedo"), ("each 0.0 1 : talk x c @", "WrongPlaces"),
                           ("each undo each : @", "BadText"), ("each 0 5 : claim x@ f @", "NotInField"),
                           ("each x x : form @ 0", "NameTaken")):
            self.fails(row, cause, desk)
            self.same(state(desk), ahead)
        # What is put aside can still be put back.
        self.same(desk.run("redo"), ["redo d"])

    def test_number_of_the_row(self):
        desk = started()
        error = self.error(BadRow, desk.run, "audit\n\neach x y c : form @ 0\naudit")
        self.same((error.row, error.cause), (3, "NameTaken"))
        self.same("x" in desk.book, False)

    def test_length_behind_the_replacing(self):
        # Behind the replacing, the ROW has exactly 20,000 characters, or one more.
        word = "x" * 1000
        row = "share " + "@" * 19 + "y" * 994
        self.same(len(row.replace("@", word)), 20000)
        self.fails(f"each {word} : {row}", "NoSuchName")
        self.fails(f"each {word} : {row}y", "TooLarge")
        # It is looked at ahead of the ROW's first word.
        self.fails("each each : @ " + "@" * 4998 + "abc", "BadText")
        self.fails("each each : @ " + "@" * 4998 + "abcd", "TooLarge")
        # And only at its turn: another row is done ahead of it, and fails.
        self.fails(f"each c {word} : shares @" + "@" * 20, "BadText")
        self.fails(f"each {word} c : shares @" + "@" * 20, "TooLarge")
        self.does("each c d : share @", "1/1; " + liar_share(FALSE).text())

    def test_redo_is_emptied_by_an_each_row_that_makes_entries(self):
        desk = started()
        desk.run("undo")
        desk.run("each a b : form @ 0")
        self.fails("redo", "NothingToRedo", desk)
        self.same(desk.run("each 1 2 3 : undo"), ["undo b; undo a; undo c"])
        self.same(desk.run("each 1 2 3 : redo"), ["redo c; redo a; redo b"])
        # An each row without WORDs changes nothing.
        desk.run("undo\neach : form x 0")
        self.same(desk.run("redo"), ["redo b"])

    def test_audit_within_each(self):
        self.same(started().run("each form : @ x 0\neach a b : audit"), ["form x", "0; 0"])


class Transcripts(ScriptCase):
    SCRIPT = (START + "\ntalk t c 2.4\nliar l d 0.3\njournal j c 3 2:3.0.2 4:4.3\nshare d\n\neach 1 2 0 : talk t@ c @.@"
              "\nundo\nredo\naudit\ncount 2 or x1 x2\neach => x : count 0 true\neach : undo =>\neach : => =>\n")

    def test_transcript(self):
        self.same(transcript(5, "count 2 or x1 x2"), "count 2 or x1 x2 => 3")
        self.same(transcript(7, "circuit 2.3 mul.0.1 add.0.0+add.0.1"), "circuit 2.3 mul.0.1 add.0.0+add.0.1 => 6")
        self.same(transcript(5, ""), " => ")
        self.same(transcript(5, "\n"), " => \n => ")
        outputs = Desk(5).run(self.SCRIPT)
        expected = "\n".join(f"{row} => {output}" for row, output in zip(self.SCRIPT.split("\n"), outputs))
        self.same(transcript(prime=5, text=self.SCRIPT), expected)
        self.same(transcript(5, self.SCRIPT), expected)

    def test_errors(self):
        self.no_prime(lambda prime: transcript(prime, "\n" * 100))
        self.no_prime(lambda prime: check_transcript(prime, "\n" * 100))
        self.error(TooLarge, transcript, 5, "\n" * 100)
        self.error(TooLarge, transcript, 5, "a" * 20001)
        error = self.error(BadRow, transcript, 5, "audit\nnothing")
        self.same((error.row, error.cause), (2, "BadText"))

    def test_a_transcript_is_checked(self):
        for text in ("", "\n", "count 2 or x1 x2", self.SCRIPT, "each : x =>", "each => => : count 0 true",
                     "each : => =>"):
            self.same(check_transcript(prime=5, text=transcript(5, text)), 0)

    def test_arrows(self):
        for text, found in (("each => x : count 0 true => 1; 1", 0), ("each : undo => => ", 0), (" => ", 0),
                            ("each : a => b => ", 0), ("each : a => b", 1), ("audit => 0", 0), ("audit =>0", 1),
                            ("audit=> 0", 1), ("audit => 0 ", 1), ("audit => ", 1), ("audit  => 0", 1),
                            ("audit => 00", 1), (" => => ", 1), ("=> ", 1), (" =>", 1), ("", 1), ("audit", 1),
                            ("audit => 0 => 0", 1)):
            self.same(check_transcript(5, text), found)

    def test_each_row_that_is_exchanged_is_found(self):
        rows = transcript(5, self.SCRIPT).split("\n")
        for at in range(len(rows)):
            for wrong in (rows[at] + "x", "x" + rows[at], "nothing", "", rows[at].replace("=>", "->")):
                text = "\n".join(rows[:at] + [wrong] + rows[at + 1:])
                self.same(check_transcript(5, text), at + 1)

    def test_a_row_too_many_or_too_few(self):
        rows = transcript(5, self.SCRIPT).split("\n")
        self.same(check_transcript(5, "\n".join(rows + [""])), len(rows) + 1)
        self.same(check_transcript(5, "\n".join(rows[1:])), 1)
        self.same(check_transcript(5, "\n".join(rows[:1] + rows[2:])), 3)
        self.same(check_transcript(5, "\n".join(rows[:1] + rows)), 2)
        self.same(check_transcript(5, "\n".join(rows[:-1])), 0)

    def test_rows_are_run_on_one_new_desk(self):
        self.same(check_transcript(5, "form f 0 => form f\nclaim c f 0 => true\nundo => undo c\nredo => redo c"), 0)
        self.same(check_transcript(5, "form f 0 => form f\nform f 0 => form f"), 2)
        self.same(check_transcript(5, "claim c f 0 => true"), 1)
        self.same(check_transcript(7, "circuit 6 => 6"), 0)
        self.same(check_transcript(5, "circuit 6 => 6"), 1)

    def test_bounds(self):
        row = "audit => 0"
        self.same(check_transcript(5, "\n".join([row] * 100)), 0)
        self.error(TooLarge, check_transcript, 5, "\n".join([row] * 101))
        self.error(TooLarge, check_transcript, 5, "\n" * 100)
        # The number of characters has no bound of its own.
        long = "each : " + "a" * 19993
        self.same(len(long), 20000)
        self.same(check_transcript(5, transcript(5, long)), 0)
        self.same(check_transcript(5, "\n".join([f"{long} => "] * 3)), 0)
        self.same(check_transcript(5, f"{row}\n{long}a => \n{row}"), 2)
        self.same(check_transcript(5, "\n".join([f"{long} => "] * 2 + ["audit => 1"])), 3)
