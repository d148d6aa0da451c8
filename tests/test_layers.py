"""Points [69] to [74] and the entry sumtalk/layers.py."""

import itertools

from sumtalk import layers
from sumtalk.circuits import circuit_values, layer_form
from sumtalk.claims import Claim
from sumtalk.errors import BadText, DivisionByZero, NotInField, OtherField, OutOfRange, TooLarge, WrongPlaces
from sumtalk.journals import Journal
from sumtalk.judging import judge
from sumtalk.layers import (LayerJournal, coin_total, judge_layers, layer_claim, layer_part, layer_schedule, layer_talk,
                            line_point, line_poly, line_polys, read_layer_journal)
from sumtalk.layertellers import LayerHonest, LayerTold
from sumtalk.polys import Poly
from helper import Alien, Case, HUGE, NO_TEXTS, OTHER_KINDS
from layer_helper import (BARE, CIRCUITS, EVEN, NARROW, ONE, PAIR, QUAD, SPREAD, SQUARE, STEPS, TALL, layer_bits,
                          plain_at, plain_filling, plain_judge, plain_line, plain_schedule, plain_total, plain_values,
                          some_coins, some_numbers)

FIRST, SECOND, ZERO = Poly(5, [3, 0, 1]), Poly(5, [0, 2]), Poly(5, [])
FOREIGN = Poly(7, [1])
ROUNDS = [(FIRST, 2), (SECOND, 0), (ZERO, 4)]


def written(journal):
    return journal.text()


def refuse(row):
    raise DivisionByZero()


def honest_journal(circuit, prime, seed=1):
    """The inputs, and the journal of an honest talk."""
    inputs = some_numbers(prime, circuit.width, seed)
    return inputs, layer_talk(circuit, LayerHonest(circuit, prime, inputs), some_coins(circuit, prime, seed + 3))


def with_rounds(journal, rounds):
    return LayerJournal(journal.prime, journal.outputs, journal.start, rounds)


class Lines(Case):
    def test_line_polys(self):
        for prime in (2, 3, 101):
            for many in range(6):
                for seed in range(4):
                    a, b = some_numbers(prime, many, seed), some_numbers(prime, many, seed + 2)
                    found = self.keeps(line_polys, prime, a, b)
                    self.same([poly.coefficients for poly in found],
                              [Poly(prime, [left, (right - left) % prime]).coefficients for left, right in zip(a, b)])
                    self.same([poly.at(0) for poly in found], a)
                    self.same([poly.at(1) for poly in found], b)
        self.same([poly.text() for poly in line_polys(prime=5, a=[1, 2, 0], b=[3, 2, 4])], ["5 1.2", "5 2", "5 0.4"])
        self.same(line_polys(5, [], ()), [])
        self.new_list(line_polys, 5, [1], [2])

    def test_line_point(self):
        for prime in (2, 5, 101):
            for many in range(6):
                a, b = some_numbers(prime, many, 1), some_numbers(prime, many, 4)
                for number in {0, 1, 2 % prime, prime - 1}:
                    found = self.keeps(lambda left, right: line_point(prime, left, right, number), a, b)
                    self.same(found, plain_line(prime, a, b, number))
        self.same(line_point(prime=5, a=[1, 2], b=[3, 2], number=2), (0, 2))
        self.same(line_point(5, [4, 3], [4, 3], 2), (4, 3))
        self.same(line_point(5, [], [], 3), ())

    def test_wrong_lines(self):
        for call in (line_polys, lambda prime, a, b: line_point(prime, a, b, 200)):
            self.no_prime(lambda prime: call(prime, ["wrong"] * 6, "wrong"))
            self.error(TooLarge, call, 5, [0] * 6, [0] * 6)
            self.error(TooLarge, call, 5, ["wrong"] * 6, [])
            for many in (0, 1, 2, 4, 5, 6):
                self.error(WrongPlaces, call, 5, [1, 2, 3], ["wrong"] * many)
            self.same(self.error(NotInField, call, 5, [0, 9], [8]).value, 9)
            self.same(self.error(NotInField, call, 5, [0, 1], [8, 9]).value, 8)
        self.no_number(5, lambda number: line_polys(5, [1, number], [1, 1]))
        self.no_number(5, lambda number: line_polys(5, [1, 1], [1, number]))
        self.no_number(5, lambda number: line_point(5, [1, 1], [1, 1], number))

    def test_line_poly(self):
        for prime in (2, 3, 101):
            for places in range(6):
                table = some_numbers(prime, 2 ** places, 3)
                for seed in range(3):
                    a, b = some_numbers(prime, places, seed), some_numbers(prime, places, seed * 2 + 1)
                    found = self.keeps(line_poly, prime, table, a, b)
                    self.same(found.prime, prime)
                    self.assertLessEqual(found.degree, places)
                    for number in range(min(prime, 9)):
                        expected = plain_filling(prime, table, plain_line(prime, a, b, number))
                        self.same(found.at(number), expected)

    def test_line_poly_is_formal(self):
        # Over 2, X times X is not X.
        self.same(line_poly(prime=2, table=[0, 0, 0, 1], a=[0, 0], b=[1, 1]).text(), "2 0.0.1")
        self.same(line_poly(2, [0, 0, 0, 1], [0, 1], [1, 0]).text(), "2 0.1.1")
        self.same(line_poly(5, [0, 0, 0, 1], [2, 3], [2, 3]).text(), "5 1")
        self.same(line_poly(5, [3], [], []).text(), "5 3")
        self.same(line_poly(2, [0] * 31 + [1], [0] * 5, [1] * 5).text(), "2 0.0.0.0.0.1")

    def test_wrong_line_polys(self):
        self.no_prime(lambda prime: line_poly(prime, [], "wrong", "wrong"))
        for table in ([], [0] * 3, [0] * 33, [0] * 64, ["wrong"] * 5):
            self.error(WrongPlaces, line_poly, 5, table, "wrong", "wrong")
        self.no_number(5, lambda number: line_poly(5, [1, number], [0], [0]))
        for point in ([], [0], [0] * 3, ["wrong"] * 6):
            self.error(WrongPlaces, line_poly, 5, [0] * 4, point, "wrong")
            self.error(WrongPlaces, line_poly, 5, [0] * 4, [0, 0], point)
        self.no_number(5, lambda number: line_poly(5, [0] * 4, [0, number], [0, 0]))
        self.no_number(5, lambda number: line_poly(5, [0] * 4, [0, 0], [0, number]))
        self.same(self.error(NotInField, line_poly, 5, [0] * 4, [9, 0], []).value, 9)


class Schedules(Case):
    def test_schedule(self):
        for circuit in CIRCUITS:
            self.same(layer_schedule(circuit=circuit), plain_schedule(circuit))
            self.same(coin_total(circuit=circuit), plain_total(circuit))
        self.same(layer_schedule(NARROW), [(0, "line", 0)] + [(1, "round", 2)] * 2 + [(1, "line", 1)]
                  + [(2, "round", 2)] * 2 + [(2, "line", 1)])
        self.same([layer_schedule(circuit) for circuit in BARE], [[], [], []])
        self.same([coin_total(circuit) for circuit in BARE + [EVEN, QUAD, TALL]], [0, 1, 2, 1, 7, 19])
        self.new_list(layer_schedule, ONE)


class Making(Case):
    def test_attributes(self):
        for rounds in (ROUNDS, tuple(ROUNDS), [list(pair) for pair in ROUNDS]):
            for outputs, start in (([4, 1], [2]), ((4, 1), (2,))):
                journal = LayerJournal(5, outputs, start, rounds)
                self.same((journal.prime, journal.outputs, journal.start, journal.length), (5, (4, 1), (2,), 3))
                self.same(journal.rounds, tuple(ROUNDS))
                self.same(journal.polys, (FIRST, SECOND, ZERO))
                self.same(journal.coins, (2, 2, 0, 4))
        empty = LayerJournal(prime=2, outputs=[], start=(), rounds=())
        self.same((empty.outputs, empty.start, empty.rounds, empty.polys, empty.coins, empty.length),
                  ((), (), (), (), (), 0))
        self.assertLessEqual({"prime", "outputs", "start", "rounds", "polys", "coins"}, set(vars(empty)))

    def test_rows_that_are_changed_behind_the_call(self):
        pair = [FIRST, 2]
        outputs, start, rounds = [1], [3], [pair]
        journal = LayerJournal(5, outputs, start, rounds)
        self.same((outputs, start, rounds), ([1], [3], [[FIRST, 2]]))
        outputs[0], start[0], pair[1] = 0, 0, 0
        rounds.append((FIRST, 1))
        start.append(1)
        self.same(journal.text(), "5 1 3\n2 3.0.1")

    def test_it_need_not_fit_any_circuit(self):
        journal = LayerJournal(5, [1, 2, 3], [1, 2], [(Poly(5, [1] * 128), 0)] * 32)
        self.same((len(journal.outputs), journal.length, len(journal.coins)), (3, 32, 34))
        self.same(LayerJournal(5, [4] * 4, [], []).outputs, (4, 4, 4, 4))

    def test_wrong_arguments(self):
        self.no_prime(lambda prime: LayerJournal(prime, ["wrong"] * 5, ["wrong"] * 3, [("wrong", 9)] * 33))
        self.error(TooLarge, LayerJournal, 5, [0] * 5, [0] * 3, [])
        self.error(TooLarge, LayerJournal, 5, ["wrong"] * 5, [9], [])
        self.no_number(5, lambda number: LayerJournal(5, [1, number], [], []))
        self.same(self.error(NotInField, LayerJournal, 5, [0, 9], [0] * 3, [(FOREIGN, 8)] * 33).value, 9)
        self.error(TooLarge, LayerJournal, 5, [0], [0] * 3, [(FOREIGN, 8)])
        self.error(TooLarge, LayerJournal, 5, [0], [9] * 3, [])
        self.no_number(5, lambda number: LayerJournal(5, [], [1, number], []))
        self.same(self.error(NotInField, LayerJournal, 5, [0], [0, 9], [(FOREIGN, 8)] * 33).value, 9)
        self.error(TooLarge, LayerJournal, 5, [0], [0], [(FOREIGN, 8)] * 33)
        self.no_number(5, lambda coin: LayerJournal(5, [], [], [(FIRST, 1), (SECOND, coin)]))
        self.error(OtherField, LayerJournal, 5, [], [], [(FIRST, 1), (FOREIGN, 9)])
        self.same(self.error(NotInField, LayerJournal, 5, [], [], [(FIRST, 9), (FOREIGN, 1)]).value, 9)

    def test_cut(self):
        journal = LayerJournal(5, [4, 1], [2], ROUNDS)
        for at in range(4):
            short = journal.cut(at=at)
            self.same((short.prime, short.outputs, short.start, short.rounds), (5, (4, 1), (2,), tuple(ROUNDS[:at])))
        self.no_range(0, 3, journal.cut)
        self.same(journal.length, 3)

    def test_replaced(self):
        journal = LayerJournal(5, [4, 1], [2], ROUNDS)
        self.same(journal.replaced(1, ZERO).rounds, ((ZERO, 2), (SECOND, 0), (ZERO, 4)))
        self.same(journal.replaced(3, FIRST).coins, (2, 2, 0, 4))
        self.same(journal.replaced(at=3, poly=FIRST, coin=1).rounds, ((FIRST, 2), (SECOND, 0), (FIRST, 1)))
        self.same(journal.replaced(1, FIRST, coin=0).coins, (2, 0, 0, 4))
        self.same((journal.replaced(2, ZERO).outputs, journal.replaced(2, ZERO).start), ((4, 1), (2,)))
        self.same(journal.rounds, tuple(ROUNDS))
        self.assertRaises(TypeError, journal.replaced, 3, FIRST, 1)
        self.no_range(1, 3, lambda at: journal.replaced(at, FIRST))
        for at in (0, 1) + OTHER_KINDS:
            self.error(OutOfRange, LayerJournal(5, [], [], []).replaced, at, FOREIGN, coin=9)
        self.error(OtherField, journal.replaced, 3, FOREIGN, coin=9)
        self.no_number(5, lambda coin: journal.replaced(2, FIRST, coin=coin), none=False)

    def test_equality(self):
        journal = LayerJournal(5, [4, 1], [2], ROUNDS)
        same = LayerJournal(5, (4, 1), (2,), [[Poly(5, [3, 0, 1, 0]), 2], [SECOND, 0], [ZERO, 4]])
        self.same(journal == same, True)
        sevenths = [(Poly(7, poly.coefficients), coin) for poly, coin in ROUNDS]
        for other in (LayerJournal(5, [4], [2], ROUNDS), LayerJournal(5, [4, 2], [2], ROUNDS),
                      LayerJournal(5, [4, 1], [3], ROUNDS), LayerJournal(5, [4, 1], [], ROUNDS),
                      LayerJournal(5, [4, 1], [2], ROUNDS[:2]), LayerJournal(7, [4, 1], [2], sevenths),
                      LayerJournal(5, [4, 1], [2], [*ROUNDS[:2], (ZERO, 3)]), Journal(5, 4, ROUNDS), journal.text(),
                      None):
            self.same(journal == other, False)
            self.same(other == journal, False)
        self.same(LayerJournal(5, [1], [], []) == LayerJournal(5, [], [1], []), False)

    def test_things_are_defined_in_their_places(self):
        for name in ("__init__", "__eq__", "length", "cut", "replaced", "text"):
            self.assertIn(name, vars(LayerJournal))
        self.assertIsInstance(vars(LayerJournal)["length"], property)
        for thing in (LayerJournal, coin_total, judge_layers, layer_claim, layer_part, layer_schedule, layer_talk,
                      line_point, line_poly, line_polys, read_layer_journal):
            self.same(thing.__module__, "sumtalk.layers")
            self.assertIs(getattr(layers, thing.__name__), thing)


class Texts(Case):
    def test_text(self):
        self.same(LayerJournal(5, [], [], []).text(), "5 - -")
        self.same(LayerJournal(5, [4, 0], [2], []).text(), "5 4.0 2")
        self.same(LayerJournal(101, [100] * 4, [99, 0], []).text(), "101 100.100.100.100 99.0")
        self.same(LayerJournal(5, [4], [], ROUNDS).text(), "5 4 -\n2 3.0.1\n0 0.2\n4 -")

    def test_read_back(self):
        longest = [(Poly(101, [100] * 128), 100)] * 32
        for journal in (LayerJournal(5, [4, 1], [2], ROUNDS), LayerJournal(2, [], [], []),
                        LayerJournal(101, [100] * 4, [100] * 2, longest), honest_journal(TALL, 7)[1]):
            again = read_layer_journal(text=journal.text())
            self.assertEqual(again, journal)
            self.same((again.outputs, again.coins), (journal.outputs, journal.coins))

    def test_texts_that_differ_in_one_place(self):
        for text in ("5 - -", "5 4.1 2\n2 3.0.1", "2 0 -\n1 -\n0 0.1", "101 100 99\n99 0.100"):
            self.reads_its_own(read_layer_journal, written, text)

    def test_bad_texts(self):
        for text in ("", "5", "5 4", "5 -", "5 4 2 1", "5 4 2\n", "\n5 4 2", "5 4 2\n\n1 1", "5 4 2\n1", "5 4 2\n1 1 1",
                     "5 4  2", "5 4 2 ", " 5 4 2", "4 1 1", "05 4 2", "5 5 2", "5 4 5", "5 04 2", "5 4. 2", "5 -- 2",
                     "5 1.1.1.1.1 2", "5 1 1.1.1", "5 4 2\n5 1", "5 4 2\n1 5", "5 4 2\n1 1.0", "5 4 2\n1 0",
                     "5 4 2\n01 1", "5 4 2\r\n1 1", "5 4 2" + "\n1 1" * 33, "5 4 2" + "\n1 1" * 6000,
                     "1" * 301 + " 1 1", "5 " + "1" * 301 + " 1", "5 4 " + "1" * 301, "5 4 2\n1 " + "1." * 128 + "1"):
            with self.subTest(text[:20]):
                self.error(BadText, read_layer_journal, text)
        self.same(read_layer_journal("5 4 2" + "\n1 1" * 32).length, 32)
        for value in NO_TEXTS + (LayerJournal(5, [], [], []),):
            self.error(BadText, read_layer_journal, value)


class Judging(Case):
    def near_journals(self, journal):
        """Journals that differ from a journal in one thing."""
        prime = journal.prime
        one = Poly(prime, [1])
        yield journal
        for at in range(journal.length):
            yield journal.cut(at)
            poly, coin = journal.rounds[at]
            for change in (one, Poly(prime, [0, 1]), Poly(prime, [1, prime - 1]), Poly(prime, [0, 1, prime - 1]),
                           Poly(prime, [0, 0, 0, 1]), Poly(prime, [0] * 4 + [1])):
                yield journal.replaced(at + 1, poly + change)
            yield journal.replaced(at + 1, poly, coin=(coin + 1) % prime)
            yield journal.replaced(at + 1, Poly(prime, []))
        for poly in (one, Poly(prime, [])):
            yield with_rounds(journal, journal.rounds + ((poly, 0),))
            yield with_rounds(journal, journal.rounds + ((poly, 0),) * 3)
        for index in range(len(journal.outputs)):
            outputs = list(journal.outputs)
            outputs[index] = (outputs[index] + 1) % prime
            yield LayerJournal(prime, outputs, journal.start, journal.rounds)
        for outputs in itertools.chain([journal.outputs[:-1]], [[1] * many for many in range(5)]):
            for start in ([], [1], [1, 1]):
                yield LayerJournal(prime, outputs, start, journal.rounds)

    def test_verdicts(self):
        met = set()
        for circuit in CIRCUITS:
            for prime in (2, 3, 101):
                inputs, journal = honest_journal(circuit, prime)
                self.same(judge_layers(circuit, journal, inputs), (None, "let by"))
                self.same(judge_layers(circuit=circuit, journal=journal, inputs=tuple(inputs)), (None, "let by"))
                for near in self.near_journals(journal):
                    verdict = self.keeps(lambda row: judge_layers(circuit, near, row), inputs)
                    self.same(verdict, plain_judge(circuit, near, inputs))
                    met.add(verdict[1])
                others = [(number + 1) % prime for number in inputs]
                self.same(judge_layers(circuit, journal, others), plain_judge(circuit, journal, others))
        self.same(sorted(met), ["degree", "let by", "line", "long", "look", "outputs", "short", "start", "sum"])

    def test_which_is_told_first(self):
        inputs, journal = honest_journal(QUAD, 101)
        poly, zero = journal.polys[1], Poly(101, [])
        rounds = [(zero, 1)] * 9
        high, shifted = poly + Poly(101, [0, 0, 0, 1]), poly + Poly(101, [1])
        broken = journal.replaced(2, shifted)
        for wrong, verdict in (
                (LayerJournal(101, [1], [1], rounds), (0, "outputs")),
                (LayerJournal(101, journal.outputs, [1], rounds), (0, "start")),
                (LayerJournal(101, [], [1, 1], journal.rounds), (0, "outputs")),
                (journal.replaced(2, high), (2, "degree")), (broken, (2, "sum")),
                (broken.replaced(1, Poly(101, [0] * 3 + [1])), (1, "degree")), (broken.cut(2), (2, "sum")),
                (broken.cut(1), (2, "short")), (journal.cut(0), (1, "short")), (journal.cut(4), (5, "short")),
                (with_rounds(broken, broken.rounds + broken.rounds), (2, "sum")),
                (with_rounds(journal, journal.rounds + broken.rounds), (6, "long")),
                (journal.replaced(5, journal.polys[4] + Poly(101, [1])), (5, "line")),
                (journal.replaced(5, journal.polys[4] + Poly(101, [0, 0, 0, 1])), (5, "degree")),
                (with_rounds(journal, journal.rounds[:4] + ((zero, 1),) * 2), (5, "line"))):
            self.same(judge_layers(QUAD, wrong, inputs), verdict)

    def test_circuits_without_layers(self):
        for circuit, inputs, start in zip(BARE, ([3], [3, 1], [3, 1, 0, 4]), ([], [2], [2, 3])):
            good = LayerJournal(5, inputs, start, [])
            self.same(judge_layers(circuit, good, inputs), (None, "let by"))
            self.same(judge_layers(circuit, with_rounds(good, [(ZERO, 0)]), inputs), (1, "long"))
            wrong = [(number + 1) % 5 for number in inputs]
            self.same(judge_layers(circuit, LayerJournal(5, wrong, start, []), inputs), (1, "look"))
            outputs = inputs[1:] if len(inputs) == 4 else inputs + [1]
            self.same(judge_layers(circuit, LayerJournal(5, outputs, start, []), inputs), (0, "outputs"))
            other = start[1:] if len(start) == 2 else start + [1]
            self.same(judge_layers(circuit, LayerJournal(5, inputs, other, []), inputs), (0, "start"))
        # The start is lucky: the fillings agree there.
        self.same(judge_layers(BARE[1], LayerJournal(5, [0, 1], [0], []), [0, 4]), (None, "let by"))

    def test_line_equation_with_its_wirings(self):
        # A gate that doubles its input: A is 1 and M is 0, and with no bits the line is a constant.
        for told, hand_in, expected in ((4, [2], (None, "let by")), (4, [3], (1, "line")), (3, [4], (2, "look")),
                                        (4, [2, 1], (1, "degree"))):
            journal = LayerJournal(5, [told], [], [(Poly(5, hand_in), 3)])
            self.same(judge_layers(EVEN, journal, [2]), expected)
        for told, hand_in, expected in ((4, [2], (None, "let by")), (4, [3], (2, "look")), (4, [1], (1, "line"))):
            self.same(judge_layers(SQUARE, LayerJournal(5, [told], [], [(Poly(5, hand_in), 0)]), [2]), expected)

    def test_wrong_inputs(self):
        _, journal = honest_journal(PAIR, 5)
        for inputs in ([], [1], [1] * 3, ["wrong"] * 4):
            self.error(WrongPlaces, judge_layers, PAIR, journal, inputs)
            self.error(WrongPlaces, judge_layers, PAIR, LayerJournal(5, [], [], []), inputs)
        self.no_number(5, lambda number: judge_layers(PAIR, journal, [1, number]))
        self.same(self.error(NotInField, judge_layers, PAIR, LayerJournal(7, [], [], []), [6, 7]).value, 7)


class Talks(Case):
    def test_a_talk_asks_for_each_hand_in(self):
        for circuit in CIRCUITS:
            for prime in (2, 5):
                inputs = some_numbers(prime, circuit.width, 2)
                honest = LayerHonest(circuit, prime, inputs)
                coins = some_coins(circuit, prime, 5)
                alien = Alien(lambda row: honest.hand(list(row)))
                alien.prime, alien.outputs = prime, list(honest.outputs)
                journal = self.keeps(lambda row: layer_talk(circuit, alien, row), coins)
                bits = layer_bits(circuit)[0]
                self.same(alien.asked[:len(alien.asked) // 2], [tuple(coins[:at]) for at in range(bits, len(coins))])
                self.same((journal.prime, journal.outputs, journal.start, journal.coins),
                          (prime, honest.outputs, tuple(coins[:bits]), tuple(coins)))
                self.same([poly.coefficients for poly in journal.polys],
                          [honest.hand(coins[:at]).coefficients for at in range(bits, len(coins))])
                self.same(judge_layers(circuit, journal, inputs), (None, "let by"))
        self.assertEqual(layer_talk(circuit=circuit, teller=honest, coins=tuple(coins)), journal)

    def test_a_talk_ends_behind_the_first_broken_hand_in(self):
        met = set()
        for circuit in CIRCUITS:
            inputs = some_numbers(3, circuit.width, 2)
            honest = LayerHonest(circuit, 3, inputs)
            coins = some_coins(circuit, 3, 7)
            bits = layer_bits(circuit)[0]
            for at in range(bits, len(coins)):
                for change in (Poly(3, [1]), Poly(3, [0, 1]), Poly(3, [0] * 3 + [1])):
                    alien = Alien(lambda row: honest.hand(list(row)) + change if len(row) == at
                                  else honest.hand(list(row)))
                    alien.prime, alien.outputs = 3, honest.outputs
                    journal = layer_talk(circuit, alien, coins)
                    k, why = judge_layers(circuit, journal, inputs)
                    met.add(why)
                    if why in ("degree", "sum", "line"):
                        self.same((journal.length, journal.coins), (k, tuple(coins[:bits + k])))
                        self.same(len(alien.asked), k)
                    else:
                        self.same((journal.length, len(alien.asked)), (len(coins) - bits, len(coins) - bits))
        self.assertLessEqual({"degree", "sum", "line", "look"}, met)

    def test_outputs_of_the_teller(self):
        outputs = [4, 1]
        told = LayerTold(5, outputs, [])
        journal = layer_talk(SPREAD, told, [0, 0])
        self.same((journal.outputs, journal.text()), ((4, 1), "5 4.1 0\n0 -"))
        alien = Alien(lambda row: ZERO)
        alien.prime, alien.outputs = 5, outputs
        journal = layer_talk(SPREAD, alien, [0, 0])
        outputs[0] = 0
        self.same(journal.outputs, (4, 1))

    def test_wrong_coins(self):
        alien = Alien(refuse)
        alien.prime, alien.outputs = 5, [0, 0]
        for coins in ([], [1], [1] * 3, [1] * 5, ["wrong"] * 9):
            self.error(WrongPlaces, layer_talk, PAIR, alien, coins)
        self.no_number(5, lambda coin: layer_talk(PAIR, LayerTold(5, [0, 0], []), [1, 2, coin, 0]))
        self.same(self.error(NotInField, layer_talk, PAIR, alien, [1, 2, 9, 8]).value, 9)
        self.same(alien.asked, [])
        self.error(WrongPlaces, layer_talk, BARE[0], LayerTold(5, [1], []), [0])
        # The field is that of the teller.
        self.same(layer_talk(BARE[1], LayerTold(7, [1, 2], []), [6]).prime, 7)

    def test_hand_ins_over_another_prime(self):
        inputs, journal = honest_journal(PAIR, 5)
        for at in range(3):
            alien = Alien(lambda row: FOREIGN if len(row) == at + 1 else journal.polys[len(row) - 1])
            alien.prime, alien.outputs = 5, journal.outputs
            self.error(OtherField, layer_talk, PAIR, alien, journal.coins)
            self.same(len(alien.asked), at + 1)

    def test_an_error_of_the_teller_comes_out(self):
        alien = Alien(refuse)
        alien.prime, alien.outputs = 5, [1]
        self.error(DivisionByZero, layer_talk, ONE, alien, [0, 0, 0])
        self.same(layer_talk(BARE[0], alien, []).text(), "5 1 -")
        self.same(alien.asked, [()])


class Claims(Case):
    def test_layer_claim(self):
        for circuit in CIRCUITS:
            for prime in (2, 5):
                inputs = some_numbers(prime, circuit.width, 3)
                tables = circuit_values(circuit, prime, inputs)
                for layer in range(circuit.depth):
                    z = some_numbers(prime, layer_bits(circuit)[layer], 4)
                    for number in range(prime):
                        claim = layer_claim(circuit=circuit, prime=prime, inputs=inputs, layer=layer, z=z,
                                            number=number)
                        self.assertIsInstance(claim, Claim)
                        self.assertEqual(claim.form, layer_form(circuit, prime, inputs, layer, z))
                        self.same((claim.total, claim.degrees), (number, (2,) * claim.places))
                        self.same(claim.is_true(), number == plain_filling(prime, tables[layer], z))
        self.keeps(lambda inputs, z: layer_claim(PAIR, 5, inputs, 0, z, 1).text(), [1, 2], [3])

    def test_wrong_claims(self):
        self.no_prime(lambda prime: layer_claim(PAIR, prime, "wrong", 9, "wrong", 200))
        self.error(WrongPlaces, layer_claim, PAIR, 5, [9], 9, "wrong", 200)
        self.same(self.error(NotInField, layer_claim, PAIR, 5, [1, 9], 9, "wrong", 200).value, 9)
        for layer in (-1, 1) + HUGE + OTHER_KINDS:
            self.error(OutOfRange, layer_claim, PAIR, 5, [1, 2], layer, "wrong", 200)
        self.error(WrongPlaces, layer_claim, PAIR, 5, [1, 2], 0, [0, 0], 200)
        self.same(self.error(NotInField, layer_claim, PAIR, 5, [1, 2], 0, [9], 8).value, 9)
        self.no_number(5, lambda number: layer_claim(PAIR, 5, [1, 2], 0, [1], number))


class Parts(Case):
    def test_layer_part(self):
        for circuit in CIRCUITS:
            for prime in (2, 101):
                inputs, journal = honest_journal(circuit, prime)
                tables = plain_values(circuit, prime, inputs)
                bits = layer_bits(circuit)
                z, at = journal.start, 0
                for layer in range(circuit.depth):
                    rounds = 2 * bits[layer + 1]
                    part = layer_part(circuit=circuit, journal=journal, layer=layer)
                    self.assertIsInstance(part, Journal)
                    self.same((part.prime, part.rounds), (prime, journal.rounds[at:at + rounds]))
                    self.same(part.total, plain_filling(prime, tables[layer], z))
                    claim = layer_claim(circuit, prime, inputs, layer, z, part.total)
                    self.same(judge(claim, part), (None, "let by"))
                    x, y = part.coins[:rounds // 2], part.coins[rounds // 2:]
                    z = plain_line(prime, x, y, journal.rounds[at + rounds][1])
                    at += rounds + 1

    def test_nothing_is_judged(self):
        rounds = [(Poly(5, [at % 5, 1, 0, 0, 2]), (2 * at + 1) % 5) for at in range(6)]
        journal = LayerJournal(5, [3], [], rounds)
        first, second = layer_part(STEPS, journal, 0), layer_part(STEPS, journal, 1)
        self.same((first.total, first.rounds), (3, tuple(rounds[:2])))
        self.same((second.total, second.rounds),
                  (plain_at(5, rounds[2][0].coefficients, rounds[2][1]), tuple(rounds[3:5])))
        other = LayerJournal(5, [1, 4], [3], rounds[:1])
        self.same(layer_part(SPREAD, other, 0).text(), f"5 {plain_filling(5, [1, 4], [3])}")

    def test_wrong_parts(self):
        _, journal = honest_journal(STEPS, 5)
        for layer in (-1, 2) + HUGE + OTHER_KINDS:
            self.error(OutOfRange, layer_part, STEPS, LayerJournal(5, [], [], []), layer)
        for circuit in BARE:
            self.error(OutOfRange, layer_part, circuit, LayerJournal(5, [1] * circuit.width, [], []), 0)
        for wrong in (LayerJournal(5, [], [], journal.rounds), LayerJournal(5, [1, 1], [], journal.rounds),
                      LayerJournal(5, [1], [1], journal.rounds), journal.cut(5), journal.cut(0),
                      with_rounds(journal, journal.rounds + ((ZERO, 0),))):
            for layer in (0, 1):
                self.error(WrongPlaces, layer_part, STEPS, wrong, layer)
        # Also where outputs and start fit each other.
        self.error(WrongPlaces, layer_part, STEPS, LayerJournal(5, [1, 1], [1], journal.rounds), 0)
        self.error(WrongPlaces, layer_part, PAIR, LayerJournal(5, [1], [], ROUNDS), 0)
        self.error(WrongPlaces, layer_part, PAIR, LayerJournal(5, [1] * 4, [0, 0], ROUNDS), 0)
        self.error(WrongPlaces, layer_part, PAIR, LayerJournal(5, [1, 1], [], ROUNDS), 0)
        self.same(layer_part(PAIR, LayerJournal(5, [1, 1], [0], ROUNDS), 0).length, 2)
