"""Points [86] to [91] and the entry sumtalk/changes.py."""

import itertools

from sumtalk import changes
from sumtalk.changes import (Folding, changed_claim, changed_rounds, changed_table, journal_work, lengthened, patched,
                             play_folding, short_form, shortened, talk_work)
from sumtalk.claims import Claim, table_claim
from sumtalk.errors import DegreeTooHigh, NotInField, OutOfRange, TooLarge, WrongPlaces
from sumtalk.fillings import corner_at, corner_sum
from sumtalk.forms import Form
from sumtalk.journals import Journal
from sumtalk.judging import judge
from sumtalk.liars import Liar, best_paper
from sumtalk.polys import Poly
from sumtalk.tellers import Changed, Honest, Told, talk
from helper import Case, HUGE, OTHER_KINDS, all_points, plain_value, some_forms

LENGTHS = (1, 2, 4, 8, 16, 32)


def table_for(prime, length, seed=1):
    return [(at * at + seed * at + seed) % prime for at in range(length)]


def weight(prime, corner, point):
    value = 1
    for bit, number in zip(corner, point):
        value = value * (number if bit else 1 - number) % prime
    return value


class Tables(Case):
    def test_changed_table(self):
        for prime in (2, 5, 101):
            for length in LENGTHS:
                table = table_for(prime, length)
                for at in range(length):
                    for step in {0, 1, prime - 1}:
                        expected = list(table)
                        expected[at] = (expected[at] + step) % prime
                        self.same(self.keeps(lambda row: changed_table(prime, row, at, step), table), expected)
        self.same(changed_table(prime=5, table=(4, 1), at=0, step=3), [2, 1])
        table = [4, 1]
        self.assertIsNot(changed_table(5, table, 0, 0), table)

    def test_wrong_tables(self):
        self.no_prime(lambda prime: changed_table(prime, [], 9, 200))
        for table in ([], [0] * 3, [0] * 33, ["wrong"] * 5, [0] * 64):
            self.error(WrongPlaces, changed_table, 5, table, 99, 200)
        self.no_number(5, lambda number: changed_table(5, [0, number], 1, 0))
        self.same(self.error(NotInField, changed_table, 5, [0, 9], 2, 8).value, 9)
        for length in LENGTHS:
            self.no_range(0, length - 1, lambda at: changed_table(5, [0] * length, at, 4))
        self.error(OutOfRange, changed_table, 5, [0, 0], 2, 9)
        self.no_number(5, lambda step: changed_table(5, [0, 0], 1, step))


class Claims(Case):
    def test_changed_claim(self):
        for prime in (2, 5, 101):
            for places in range(4):
                for form in some_forms(prime, places):
                    told = [max(1, degree) for degree in form.degrees]
                    for shift, step in itertools.product((0, 1), (1, prime - 1, 0)):
                        claim = Claim(form, degrees=told, total=(corner_sum(form) + shift) % prime)
                        for corner in itertools.product((0, 1), repeat=places):
                            new = changed_claim(claim, corner, step)
                            self.same((new.degrees, new.total), (claim.degrees, (claim.total + step) % prime))
                            self.same(new.error(), claim.error())
                            self.assertLessEqual(max((new.form - form).degrees, default=0), 1)
                            for point in all_points(min(prime, 3), places):
                                expected = plain_value(form, point) + step * weight(prime, corner, point)
                                self.same(plain_value(new.form, point), expected % prime)
        self.keeps(lambda corner: changed_claim(claim, corner, 1).text(), list(corner))
        self.same(changed_claim(claim=Claim(Form(5, 1, []), degrees=[1]), corner=[0], step=2).text(),
                  "5 1 2:0 3:1 | 2 1")

    def test_fillings_become_those_of_changed_tables(self):
        for prime in (2, 101):
            for places, length in enumerate(LENGTHS):
                table = table_for(prime, length)
                claim = table_claim(prime, table)
                for at in range(0, length, 3):
                    new = changed_claim(claim, corner_at(places, at), 1)
                    self.assertEqual(new, table_claim(prime, changed_table(prime, table, at, 1)))

    def test_told_degrees_of_0(self):
        claim = Claim(Form(5, 2, []), degrees=[1, 0])
        for step in (0, 1):
            self.error(DegreeTooHigh, changed_claim, claim, [0, 0], step)
        self.error(DegreeTooHigh, changed_claim, Claim(Form(5, 2, [])), [1, 1], 0)
        self.same(self.error(NotInField, changed_claim, claim, [0, 0], 5).value, 5)
        self.same(changed_claim(Claim(Form(5, 0, [])), [], 3).text(), "5 0 3:- | 3 -")
        self.same(changed_claim(Claim(Form(5, 0, [((), 2)])), (), 3).text(), "5 0 | 0 -")

    def test_bound_on_terms(self):
        exponents = [row for row in itertools.product(range(5), repeat=5) if max(row) > 1]
        low = list(itertools.product((0, 1), repeat=5))
        # The whole weight of the corner of zeros has 32 terms, that of the corner of ones has one.
        for many, corner, fits in ((992, (0,) * 5, True), (993, (0,) * 5, False), (1023, (1,) * 5, True),
                                   (1024, (1,) * 5, False)):
            claim = Claim(Form(3, 5, [(row, 1) for row in exponents[:many]]), degrees=[4] * 5)
            if fits:
                self.same(len(changed_claim(claim, corner, 1).form.terms), 1024)
            else:
                self.error(TooLarge, changed_claim, claim, corner, 1)
        full = Claim(Form(3, 5, [(row, 1) for row in exponents[:992] + low]), degrees=[4] * 5)
        self.same(len(full.form.terms), 1024)
        # Terms that are there already, and terms that vanish, add none.
        self.same(len(changed_claim(full, (1,) * 5, 1).form.terms), 1024)
        self.same(len(changed_claim(full, (1,) * 5, 2).form.terms), 1023)
        self.same(len(changed_claim(full, (0,) * 5, 0).form.terms), 1024)

    def test_wrong_arguments(self):
        claim = Claim(Form(5, 2, []), degrees=[1, 0])
        # Every other length is told as such, also beyond the bound that corners have elsewhere.
        for corner in ([], [0], [0] * 3, ["wrong"] * 9):
            self.error(WrongPlaces, changed_claim, claim, corner, 9)
        for bit in (-1, 2) + HUGE + OTHER_KINDS:
            self.error(OutOfRange, changed_claim, claim, [0, bit], 9)
        fine = Claim(Form(5, 2, []), degrees=[1, 1])
        self.no_number(5, lambda step: changed_claim(fine, [0, 1], step))


class Patches(Case):
    def journals_for(self, claim):
        """Journals of talks, let by and broken."""
        prime = claim.prime
        for teller in (Honest(claim), Liar(claim, best_paper(claim)), Told(prime, []),
                       Changed(Honest(claim), 2, Poly(prime, [0] * 5 + [1])),
                       Changed(Honest(claim), 1, Poly(prime, [1]))):
            for shift in range(min(prime, 3)):
                yield talk(claim, teller, [(at * at + shift) % prime for at in range(claim.places)])
        yield Journal(prime, (claim.total + 1) % prime, [])
        yield Journal(prime, claim.total, [(Poly(prime, [1]), 0)] * 7)
        yield Journal(prime, claim.total, [])

    def test_verdicts_stay(self):
        met = set()
        for prime in (2, 3, 101):
            for places in range(4):
                for form in some_forms(prime, places):
                    for shift in (0, 1):
                        claim = Claim(form, degrees=[max(1, degree) for degree in form.degrees],
                                      total=(corner_sum(form) + shift) % prime)
                        for corner in itertools.product((0, 1), repeat=places):
                            new = changed_claim(claim, corner, 1)
                            for journal in self.journals_for(claim):
                                verdict = judge(claim, journal)
                                self.same(judge(new, patched(journal, corner, 1)), verdict)
                                met.add(verdict[1])
        self.same(met, {"total", "long", "degree", "sum", "short", "look", "let by"})

    def test_hand_ins_of_honest_talks_are_those_of_the_changed_claim(self):
        for prime in (2, 5):
            for length in LENGTHS[1:4]:
                claim = table_claim(prime, table_for(prime, length))
                coins = [2 % prime, 1, 0][:claim.places]
                for corner in itertools.product((0, 1), repeat=claim.places):
                    new = changed_claim(claim, corner, prime - 1)
                    journal = patched(talk(claim, Honest(claim), coins), corner, prime - 1)
                    self.assertEqual(journal, talk(new, Honest(new), coins))

    def test_each_round(self):
        prime = 7
        rounds = [(Poly(prime, [at, 2, at + 1]), (3 * at + 2) % prime) for at in range(4)]
        journal = Journal(prime, 5, rounds)
        for many in range(6):
            for corner in itertools.product((0, 1), repeat=many):
                for step in (0, 1, 4):
                    new = self.keeps(lambda row: patched(journal, row, step).text(), list(corner))
                    factor, expected = step, []
                    for k, (poly, coin) in enumerate(rounds):
                        if k < many:
                            g = [0, 1] if corner[k] else [1, prime - 1]
                            poly = poly + Poly(prime, [factor * number % prime for number in g])
                            factor = factor * (coin if corner[k] else 1 - coin) % prime
                        expected.append((poly, coin))
                    self.same(new, Journal(prime, (5 + step) % prime, expected).text())
        self.same(journal.rounds, tuple(rounds))
        self.same(patched(journal=Journal(5, 4, []), corner=[1, 0], step=3).text(), "5 2")
        longest = patched(Journal(5, 4, [(Poly(5, [4] * 128), 4)] * 32), [1] * 5, 1)
        self.same((longest.length, longest.polys[0].degree), (32, 127))

    def test_wrong_patches(self):
        journal = Journal(5, 4, [(Poly(5, [1]), 2)])
        self.error(TooLarge, patched, journal, [0] * 6, 9)
        self.error(TooLarge, patched, journal, ["wrong"] * 6, 9)
        for bit in (-1, 2) + HUGE + OTHER_KINDS:
            self.error(OutOfRange, patched, journal, [0, bit], 9)
        self.no_number(5, lambda step: patched(journal, [0, 1], step))
        # Also where no round changes.
        self.no_number(5, lambda step: patched(journal, [], step))
        self.no_number(5, lambda step: patched(Journal(5, 4, []), [1], step))

    def test_changed_rounds(self):
        for prime in (2, 3, 5):
            for many in range(4):
                rounds = [(Poly(prime, [1, 1]), coin) for coin in [0] * many]
                for corner in itertools.product((0, 1), repeat=many):
                    for coins in all_points(prime, many):
                        hits = [k for k in range(1, many + 1) if coins[k - 1] == (1 - corner[k - 1]) % prime]
                        found = self.keeps(lambda row, own: changed_rounds(prime, row, own), list(corner), list(coins))
                        self.same(found, min(hits, default=many))
                        journal = Journal(prime, 0, [(poly, coin) for (poly, _), coin in zip(rounds, coins)])
                        new = patched(journal, corner, prime - 1)
                        self.same([left == right for left, right in zip(new.polys, journal.polys)],
                                  [k >= found for k in range(many)])
        self.same(changed_rounds(prime=5, corner=[1, 0, 1], coins=[1, 1, 0]), 2)
        self.same(changed_rounds(101, [0] * 5, [0, 100, 2, 3, 1]), 5)
        self.same(changed_rounds(5, [], []), 0)

    def test_wrong_changed_rounds(self):
        self.no_prime(lambda prime: changed_rounds(prime, ["wrong"] * 6, "wrong"))
        self.error(TooLarge, changed_rounds, 5, [0] * 6, [0] * 6)
        for bit in (-1, 2) + HUGE + OTHER_KINDS:
            self.error(OutOfRange, changed_rounds, 5, [0, bit], [])
        for coins in ([], [0], [0] * 3, ["wrong"] * 6):
            self.error(WrongPlaces, changed_rounds, 5, [0, 1], coins)
        self.no_number(5, lambda coin: changed_rounds(5, [0, 1], [0, coin]))

    def test_things_are_defined_in_their_places(self):
        for name in ("__init__", "next_poly", "take"):
            self.assertIn(name, vars(Folding))
        for thing in (Folding, changed_claim, changed_rounds, changed_table, journal_work, lengthened, patched,
                      play_folding, short_form, shortened, talk_work):
            self.same(thing.__module__, "sumtalk.changes")
            self.assertIs(getattr(changes, thing.__name__), thing)


class Foldings(Case):
    def test_a_whole_talk(self):
        for prime in (2, 5, 101):
            for places, length in enumerate(LENGTHS):
                table = table_for(prime, length)
                claim = table_claim(prime, table)
                coins = [(2 * at + 3) % prime for at in range(places)]
                folding = Folding(prime, table)
                self.same((folding.prime, folding.left, folding.read, folding.made), (prime, tuple(table), 0, 0))
                for at in range(places):
                    self.assertEqual(folding.next_poly(), Honest(claim).hand(coins[:at]))
                    self.assertIsNone(folding.take(coins[at]))
                    self.same(folding.left, tuple(claim.form.fix(coins[:at + 1]).at(corner)
                                                  for corner in itertools.product((0, 1), repeat=places - at - 1)))
                self.same((folding.read, folding.made), (2 * length - 2, length - 1))
                journal, read, made = self.keeps(lambda row, own: play_folding(prime, row, own), table, coins)
                self.assertEqual(journal, talk(claim, Honest(claim), coins))
                self.same((read, made), (2 * length - 2, length - 1))
        self.same(type(play_folding(5, [1], [])), tuple)
        self.same((play_folding(5, [3], [])[0].text(), *play_folding(prime=5, table=[3], coins=())[1:]), ("5 3", 0, 0))

    def test_counts(self):
        folding = Folding(prime=5, table=[1, 2, 3, 4])
        self.assertLessEqual({"prime", "left", "read", "made"}, set(vars(folding)))
        self.same(folding.next_poly().text(), "5 3.4")
        self.same((folding.read, folding.made), (4, 0))
        self.same(folding.next_poly().text(), "5 3.4")
        self.same((folding.read, folding.made), (8, 0))
        folding.take(coin=2)
        self.same((folding.left, folding.read, folding.made), ((0, 1), 8, 2))
        folding.take(0)
        self.same((folding.left, folding.read, folding.made), ((0,), 8, 3))

    def test_behind_the_end(self):
        for folding in (Folding(5, [4]), Folding(5, [1, 4])):
            if len(folding.left) > 1:
                folding.take(1)
            counts = (folding.left, folding.read, folding.made)
            self.error(WrongPlaces, folding.next_poly)
            self.error(WrongPlaces, folding.take, 0)
            self.same(self.error(NotInField, folding.take, 5).value, 5)
            self.same((folding.left, folding.read, folding.made), counts)

    def test_a_refused_coin_changes_nothing(self):
        folding = Folding(5, [1, 2, 3, 4])
        self.no_number(5, lambda coin: folding.take(coin) if coin not in (0, 4) or coin is False else None)
        self.same((folding.left, folding.read, folding.made), ((1, 2, 3, 4), 0, 0))

    def test_a_row_that_is_changed_behind_the_call(self):
        table = [1, 2]
        folding = Folding(5, table)
        table[0] = 4
        table.append(0)
        self.same(folding.left, (1, 2))

    def test_wrong_arguments(self):
        self.no_prime(lambda prime: Folding(prime, []))
        self.no_prime(lambda prime: play_folding(prime, [], "wrong"))
        for table in ([], [0] * 3, [0] * 33, ["wrong"] * 5, [0] * 64):
            self.error(WrongPlaces, Folding, 5, table)
            self.error(WrongPlaces, play_folding, 5, table, "wrong")
        self.no_number(5, lambda number: Folding(5, [0, number]))
        self.no_number(5, lambda number: play_folding(5, [0, number], [0]))
        self.same(self.error(NotInField, play_folding, 5, [9, 8], []).value, 9)
        for coins in ([], [0], [0] * 3, ["wrong"] * 6):
            self.error(WrongPlaces, play_folding, 5, [0] * 4, coins)
        self.error(WrongPlaces, play_folding, 5, [0], [0])
        self.no_number(5, lambda coin: play_folding(5, [0] * 4, [0, coin]))


class Work(Case):
    def test_talk_work(self):
        for degrees, work in (([], (0, 0, 0)), ([0], (1, 1, 0)), ([2, 0, 3], (8, 3, 5)),
                              ([127] * 32, (4096, 32, 4064))):
            self.same(self.keeps(talk_work, degrees), work)
        self.same(talk_work(degrees=(1, 1)), (4, 2, 2))
        self.error(TooLarge, talk_work, [0] * 33)
        self.error(TooLarge, talk_work, ["wrong"] * 33)
        self.no_range(0, 127, lambda degree: talk_work([1, degree]))

    def test_journal_work(self):
        rounds = [(Poly(5, [1, 2]), 3), (Poly(5, []), 1), (Poly(5, [4]), 0), (Poly(5, [0, 0, 0, 1]), 2)]
        self.same(journal_work(journal=Journal(5, 4, rounds)), (7, 4, 4))
        self.same(journal_work(Journal(5, 4, [])), (0, 0, 0))
        self.same(journal_work(Journal(5, 4, [(Poly(5, [1] * 128), 0)] * 32)), (4096, 32, 4064))

    def test_work_of_talks_is_bounded(self):
        for prime in (2, 5):
            for form in some_forms(prime, 3):
                claim = Claim(form, degrees=[degree + 1 for degree in form.degrees], total=1)
                for teller in (Honest(claim), Liar(claim, best_paper(claim))):
                    work = journal_work(talk(claim, teller, [1, 0, 1]))
                    self.assertTrue(all(own <= most for own, most in zip(work, talk_work(claim.degrees))))


class ShortForms(Case):
    def test_short_form(self):
        for coefficients, short in (([], ()), ([3], (3,)), ([3, 1], (3,)), ([0, 1], (0,)), ([3, 1, 4], (3, 4)),
                                    ([0, 0, 0, 2], (0, 0, 2)), ([1] * 128, (1,) * 127)):
            self.same(short_form(poly=Poly(5, coefficients)), short)

    def test_shortened(self):
        rounds = [(Poly(5, [1, 2]), 3), (Poly(5, []), 1), (Poly(5, [0, 0, 0, 1]), 2)]
        self.same(shortened(journal=Journal(5, 4, rounds)), [(1,), (), (0, 0, 1)])
        self.same(shortened(Journal(5, 4, [])), [])
        self.new_list(shortened, Journal(5, 4, rounds))

    def test_journals_come_back(self):
        for prime in (2, 5, 101):
            for form in some_forms(prime, 3):
                for total in range(min(prime, 3)):
                    claim = Claim(form, degrees=[degree + 1 for degree in form.degrees], total=total)
                    for shift in (0, 1):
                        coins = [(at + shift) % prime for at in range(3)]
                        journal = talk(claim, Liar(claim, best_paper(claim)), coins)
                        self.assertEqual(lengthened(prime, total, shortened(journal), coins), journal)

    def test_no_round_is_broken_by_its_sum(self):
        for prime in (2, 3, 101):
            for row in itertools.product([(), (0,), (1,), (1, 0, 0), (0, 1), (1, 1, 1)], repeat=2):
                for total in (0, 1):
                    coins = [1, prime - 1]
                    journal = self.keeps(lambda shorts, own: lengthened(prime, total, shorts, own),
                                         [list(short) for short in row], coins)
                    self.same((journal.prime, journal.total, journal.coins), (prime, total, tuple(coins)))
                    for short, poly, owed in zip(row, journal.polys, journal.owed()):
                        self.same(poly.ends(), owed)
                        padded = poly.padded(9)
                        self.same([padded[0]] + padded[2:], list(short) + [0] * (8 - len(short)))

    def test_edges(self):
        self.same(lengthened(prime=5, total=3, shorts=[], coins=[]).text(), "5 3")
        self.same(lengthened(5, 3, [()], [2]).text(), "5 3\n2 0.3")
        self.same(lengthened(5, 0, [()], [2]).text(), "5 0\n2 -")
        self.same(lengthened(5, 3, [(4, 0, 0, 0)], [2]).text(), "5 3\n2 4")
        self.same(lengthened(5, 3, [(1, 2)], [2]).text(), "5 3\n2 1.4.2")
        longest = lengthened(101, 7, [[5] * 127] * 32, [3] * 32)
        self.same((longest.length, longest.polys[31].degree), (32, 127))
        self.same(shortened(longest), [(5,) * 127] * 32)

    def test_wrong_arguments(self):
        self.no_prime(lambda prime: lengthened(prime, 200, [[9] * 128] * 33, "wrong"))
        self.no_number(5, lambda total: lengthened(5, total, [], []))
        self.same(self.error(NotInField, lengthened, 5, 9, [[]] * 33, []).value, 9)
        self.error(TooLarge, lengthened, 5, 0, [[]] * 33, [0] * 33)
        self.error(TooLarge, lengthened, 5, 0, ["wrong"] * 33, [])
        self.error(TooLarge, lengthened, 5, 0, [[0], [0] * 128], [9])
        self.error(TooLarge, lengthened, 5, 0, [[0], [9] * 128], [9])
        self.no_number(5, lambda number: lengthened(5, 0, [[0], [1, number]], [0, 0]))
        # Each row completely ahead of the next one, and all of them ahead of the coins.
        self.same(self.error(NotInField, lengthened, 5, 0, [[9], [0] * 128], []).value, 9)
        self.error(TooLarge, lengthened, 5, 0, [[0] * 128, [9]], [])
        for coins in ([], [0], [0] * 3, ["wrong"] * 33):
            self.error(WrongPlaces, lengthened, 5, 0, [[], []], coins)
        self.no_number(5, lambda coin: lengthened(5, 0, [[], []], [0, coin]))
