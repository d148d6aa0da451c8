"""Points [29] and [31] and the entry sumtalk/journals.py."""

from sumtalk import journals
from sumtalk.errors import BadText, NotInField, OtherField, OutOfRange, TooLarge
from sumtalk.journals import Journal, read_journal
from sumtalk.polys import Poly
from helper import Case, NO_TEXTS, OTHER_KINDS

FIRST, SECOND, ZERO = Poly(5, [3, 0, 1]), Poly(5, [0, 2]), Poly(5, [])
FOREIGN = Poly(7, [1])
ROUNDS = [(FIRST, 2), (SECOND, 0), (ZERO, 4)]


def written(journal):
    return journal.text()


class Making(Case):
    def test_attributes(self):
        for rounds in (ROUNDS, tuple(ROUNDS), [list(pair) for pair in ROUNDS]):
            journal = Journal(5, 4, rounds)
            self.same((journal.prime, journal.total, journal.length), (5, 4, 3))
            self.same(journal.rounds, tuple(ROUNDS))
            self.same(journal.polys, (FIRST, SECOND, ZERO))
            self.same(journal.coins, (2, 0, 4))
        empty = Journal(prime=2, total=1, rounds=())
        self.same((empty.rounds, empty.polys, empty.coins, empty.length), ((), (), (), 0))

    def test_attributes_are_set_on_the_object(self):
        self.assertLessEqual({"prime", "total", "rounds", "polys", "coins"}, set(vars(Journal(5, 0, []))))

    def test_rows_that_are_changed_behind_the_call(self):
        pair = [FIRST, 2]
        rounds = [pair]
        journal = Journal(5, 4, rounds)
        self.same(rounds, [[FIRST, 2]])
        pair[1] = 3
        rounds.append((SECOND, 1))
        self.same(journal.rounds, ((FIRST, 2),))
        self.same(journal.coins, (2,))

    def test_nothing_needs_to_fit_together(self):
        self.same(Journal(5, 0, [(FIRST, 1)] * 32).length, 32)
        self.same(Journal(5, 1, [(Poly(5, [1] * 128), 0)]).polys[0].degree, 127)

    def test_wrong_prime_and_total(self):
        self.no_prime(lambda prime: Journal(prime, 9, [(FIRST, 9)] * 33))
        self.no_number(5, lambda total: Journal(5, total, []))
        self.same(self.error(NotInField, Journal, 5, 9, [(FOREIGN, 8)] * 33).value, 9)

    def test_number_of_rounds(self):
        self.error(TooLarge, Journal, 5, 0, [(FIRST, 1)] * 33)
        self.error(TooLarge, Journal, 5, 0, [("wrong", "wrong")] * 33)

    def test_wrong_rounds(self):
        self.no_number(5, lambda coin: Journal(5, 0, [(FIRST, 1), (SECOND, coin)]))
        self.error(OtherField, Journal, 5, 0, [(FIRST, 1), (FOREIGN, 9)])
        self.same(self.error(NotInField, Journal, 5, 0, [(FIRST, 9), (FOREIGN, 1)]).value, 9)
        self.error(OtherField, Journal, 5, 0, [(FOREIGN, 1), (FIRST, 9)])
        # The number is one of the other field only.
        self.same(self.error(NotInField, Journal, 5, 0, [(FIRST, 6)]).value, 6)

    def test_things_are_defined_in_their_places(self):
        for name in ("__init__", "__eq__", "length", "owed", "cut", "replaced", "extended", "text"):
            self.assertIn(name, vars(Journal))
        self.assertIsInstance(vars(Journal)["length"], property)
        for thing in (Journal, read_journal):
            self.same(thing.__module__, "sumtalk.journals")
            self.assertIs(getattr(journals, thing.__name__), thing)


class Using(Case):
    def test_owed_numbers(self):
        journal = Journal(5, 4, ROUNDS)
        self.same(journal.owed(), [4, (3 + 4) % 5, 0, 0])
        self.same(Journal(5, 1, [(SECOND, 3), (FIRST, 4)]).owed(), [1, 1, 4])
        self.same(Journal(101, 100, []).owed(), [100])
        self.same(len(Journal(5, 0, [(FIRST, 1)] * 32).owed()), 33)
        self.new_list(journal.owed)

    def test_cut(self):
        journal = Journal(5, 4, ROUNDS)
        for at in range(4):
            self.same(journal.cut(at).rounds, tuple(ROUNDS[:at]))
            self.same((journal.cut(at=at).prime, journal.cut(at).total), (5, 4))
        self.no_range(0, 3, journal.cut)
        self.no_range(0, 0, Journal(5, 4, []).cut)
        self.same(journal.length, 3)

    def test_replaced(self):
        journal = Journal(5, 4, ROUNDS)
        self.same(journal.replaced(1, ZERO).rounds, ((ZERO, 2), (SECOND, 0), (ZERO, 4)))
        self.same(journal.replaced(2, ZERO).rounds, ((FIRST, 2), (ZERO, 0), (ZERO, 4)))
        self.same(journal.replaced(3, FIRST, coin=1).rounds, ((FIRST, 2), (SECOND, 0), (FIRST, 1)))
        self.same(journal.replaced(3, FIRST, coin=0).coins, (2, 0, 0))
        self.same(journal.replaced(at=3, poly=FIRST, coin=None).rounds, ((FIRST, 2), (SECOND, 0), (FIRST, 4)))
        self.same((journal.replaced(1, ZERO).prime, journal.replaced(1, ZERO).total), (5, 4))
        self.same(journal.rounds, tuple(ROUNDS))
        self.assertRaises(TypeError, journal.replaced, 3, FIRST, 1)

    def test_replaced_wrongly(self):
        journal = Journal(5, 4, ROUNDS)
        self.no_range(1, 3, lambda at: journal.replaced(at, FIRST))
        for at in (0, 1, -1) + OTHER_KINDS:
            self.error(OutOfRange, Journal(5, 4, []).replaced, at, FOREIGN, coin=9)
        self.error(OtherField, journal.replaced, 1, FOREIGN)
        self.error(OtherField, journal.replaced, 3, FOREIGN, coin=9)
        self.error(OutOfRange, journal.replaced, 4, FOREIGN, coin=9)
        self.no_number(5, lambda coin: journal.replaced(2, FIRST, coin=coin), none=False)

    def test_extended(self):
        journal = Journal(5, 4, ROUNDS)
        longer = journal.extended(SECOND, 3)
        self.same(longer.rounds, (*ROUNDS, (SECOND, 3)))
        self.same((longer.prime, longer.total, journal.length), (5, 4, 3))
        self.same(Journal(5, 4, []).extended(poly=ZERO, coin=0).rounds, ((ZERO, 0),))
        self.error(OtherField, journal.extended, FOREIGN, 9)
        self.no_number(5, lambda coin: journal.extended(FIRST, coin))

    def test_a_round_too_many_is_told_last(self):
        journal = Journal(5, 4, [(FIRST, 1)] * 31).extended(FIRST, 1)
        self.same(journal.length, 32)
        self.error(TooLarge, journal.extended, FIRST, 1)
        self.error(OtherField, journal.extended, FOREIGN, 1)
        self.same(self.error(NotInField, journal.extended, FIRST, 9).value, 9)

    def test_equality(self):
        journal = Journal(5, 4, ROUNDS)
        self.same(journal == Journal(5, 4, [[Poly(5, [3, 0, 1, 0]), 2], [SECOND, 0], [ZERO, 4]]), True)
        sevenths = [(Poly(7, poly.coefficients), coin) for poly, coin in ROUNDS]
        for other in (Journal(5, 3, ROUNDS), Journal(5, 4, ROUNDS[:2]), Journal(5, 4, ROUNDS[::-1]),
                      Journal(5, 4, [*ROUNDS[:2], (ZERO, 3)]), Journal(5, 4, [*ROUNDS[:2], (FIRST, 4)]),
                      Journal(7, 4, sevenths), journal.rounds, journal.text(), None, 4):
            self.same(journal == other, False)
            self.same(other == journal, False)
        self.same(Journal(5, 1, []) == Journal(7, 1, []), False)
        self.same(Journal(5, 1, []) == Journal(5, 1, []), True)


class Texts(Case):
    def test_text(self):
        self.same(Journal(5, 4, []).text(), "5 4")
        self.same(Journal(5, 4, [(FIRST, 2)]).text(), "5 4\n2 3.0.1")
        self.same(Journal(5, 4, ROUNDS).text(), "5 4\n2 3.0.1\n0 0.2\n4 -")

    def test_read_back(self):
        longest = [(Poly(101, [100] * 128), 100)] * 32
        for journal in (Journal(5, 4, ROUNDS), Journal(2, 0, []), Journal(101, 100, longest),
                        Journal(5, 0, ROUNDS * 10)):
            again = read_journal(text=journal.text())
            self.assertEqual(again, journal)
            self.same((again.total, again.coins, again.length), (journal.total, journal.coins, journal.length))

    def test_texts_that_differ_in_one_place(self):
        for text in ("5 4", "5 4\n2 3.0.1", "2 0\n1 -\n0 0.1", "101 100\n99 0.100"):
            self.reads_its_own(read_journal, written, text)

    def test_bad_texts(self):
        for text in ("", "5", "5 4\n", "\n5 4", "5 4\n\n2 3", "5 4\n2 3\n", "5 4\n2", "5 4\n2 3 1", "5 4\n 2 3",
                     "5 4 2 3",
                     "5 4\n2 3.0", "5 4\n2 0", "5 4\n5 3", "5 4\n2 5", "5 4\n02 3", "5 4\n2 03", "5 5", "05 4", "5 04",
                     "4 1", "5 -", "5 4\n- 3", "5 4\n2  3", "5 4\n2 3 ", "5 4\r\n2 3", "5 4\n2:3", "5 4\n2 --", "7 4 ",
                     "5 4\n2 " + "1." * 128 + "1", "5 4" + "\n2 3" * 33, "5 4" + "\n2 3" * 6000, "1" * 301 + " 1",
                     "5 " + "1" * 301, "5 4\n2 " + "1" * 301, "5 4\n" + "1" * 301 + " 1"):
            with self.subTest(text[:20]):
                self.error(BadText, read_journal, text)
        self.same(read_journal("5 4" + "\n2 3" * 32).length, 32)
        for value in NO_TEXTS + (Journal(5, 4, []),):
            self.error(BadText, read_journal, value)
