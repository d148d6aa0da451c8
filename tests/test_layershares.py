"""Points [76] to [80] and the entry sumtalk/layershares.py."""

import itertools
from fractions import Fraction
from functools import lru_cache

from sumtalk import layershares
from sumtalk.circuits import Circuit
from sumtalk.counts import rule_share, zero_share
from sumtalk.errors import DivisionByZero, NotInField, OtherField, OutOfRange, TooLarge, WrongPlaces
from sumtalk.fillings import filling
from sumtalk.layers import LayerJournal, coin_total, judge_layers, layer_talk
from sumtalk.layershares import (layer_bound, layer_rows, layer_search, layer_search_cost, layer_share_of,
                                 lucky_hand_in)
from sumtalk.layertellers import LayerHonest, LayerLiar, LayerTold, true_hand_in, true_owed
from sumtalk.points import all_polys
from sumtalk.polys import Poly
from sumtalk.shares import Share
from sumtalk.tellers import Counted
from helper import Alien, Case, all_points
from layer_helper import (ADD, BARE, CHAIN, CIRCUITS, DEEP, EVEN, MUL, NARROW, ONE, PAIR, QUAD, SMALL, SPREAD, SQUARE,
                          STEPS, TALL, adds, layer_bits, muls, plain_at, plain_filling, plain_line, plain_schedule,
                          plain_total, plain_values, plain_wiring, some_coins, some_numbers)

LET_BY = (None, "let by")


def fraction(share):
    return Fraction(share.top, share.bottom)


def refuse(row):
    raise DivisionByZero()


def alien_teller(prime, outputs, answer):
    """A teller that is none of the program's."""
    alien = Alien(answer)
    alien.prime, alien.outputs = prime, outputs
    return alien


def false_outputs(circuit, prime, inputs):
    """Outputs that are all false, and outputs of which one is false."""
    true = plain_values(circuit, prime, inputs)[0]
    return [(number + 1) % prime for number in true], true[:-1] + [(true[-1] + prime - 1) % prime]


def plain_cost(circuit, prime):
    bits = layer_bits(circuit)
    cost = prime ** bits[0]
    for k, h in zip(bits, bits[1:]):
        cost += prime ** (k + 1) * (prime ** (3 * h + 2) + sum(prime ** (j + 4) for j in range(2 * h)))
    return cost


def plain_search(circuit, prime, inputs, outputs):
    """The greatest share, by the words of the document."""
    bits = layer_bits(circuit)

    @lru_cache(maxsize=None)
    def polys(degree):
        return list(itertools.product(range(prime), repeat=degree + 1))

    @lru_cache(maxsize=None)
    def value(layer, z, own, owed):
        if layer == circuit.depth:
            return int(owed == plain_filling(prime, inputs, z))
        half = bits[layer + 1]
        x, y = own[:half], own[half:]
        best = 0
        for row in polys(2 if len(own) < 2 * half else half):
            low, high = row[0], sum(row) % prime
            if len(own) < 2 * half:
                if (low + high) % prime == owed:
                    best = max(best, sum(value(layer, z, own + (coin,), plain_at(prime, row, coin))
                                         for coin in range(prime)))
            elif (plain_wiring(circuit, prime, layer, ADD, z, x, y) * (low + high)
                    + plain_wiring(circuit, prime, layer, MUL, z, x, y) * low * high) % prime == owed:
                best = max(best, sum(value(layer + 1, plain_line(prime, x, y, coin), (), plain_at(prime, row, coin))
                                     for coin in range(prime)))
        return best

    starts = all_points(prime, bits[0])
    total = sum(value(0, start, (), plain_filling(prime, outputs, start)) for start in starts)
    return Fraction(total, prime ** plain_total(circuit))


def best_of_all_tellers(circuit, prime, inputs, outputs):
    """The greatest share, found by judging the journals of all tellers."""
    schedule = plain_schedule(circuit)

    def best(journal):
        if journal.length == len(schedule):
            return int(judge_layers(circuit, journal, inputs) == LET_BY)
        found = 0
        for poly in all_polys(prime, schedule[journal.length][2]):
            longer = [LayerJournal(prime, outputs, journal.start, journal.rounds + ((poly, coin),))
                      for coin in range(prime)]
            if judge_layers(circuit, longer[0], inputs)[1] in ("short", "look", "let by"):
                found = max(found, sum(best(one) for one in longer))
        return found

    starts = all_points(prime, layer_bits(circuit)[0])
    total = sum(best(LayerJournal(prime, outputs, start, [])) for start in starts)
    return Fraction(total, prime ** plain_total(circuit))


class Counting(Case):
    def test_rows_are_those_that_are_let_by(self):
        for circuit, prime in ((ONE, 3), (PAIR, 3), (SPREAD, 5), (QUAD, 2), (STEPS, 2), (SMALL, 2), (EVEN, 101),
                               (BARE[0], 5), (BARE[1], 7), (BARE[2], 5), (NARROW, 2)):
            inputs = some_numbers(prime, circuit.width, 2)
            honest = LayerHonest(circuit, prime, inputs)
            tellers = [honest] + [LayerLiar(circuit, prime, inputs, outputs)
                                  for outputs in false_outputs(circuit, prime, inputs)]
            for teller in tellers:
                rows = [row for row in all_points(prime, plain_total(circuit))
                        if judge_layers(circuit, layer_talk(circuit, teller, row), inputs) == LET_BY]
                self.same(self.keeps(lambda row: layer_rows(circuit, teller, row), inputs), rows)
                share = layer_share_of(circuit=circuit, teller=teller, inputs=tuple(inputs))
                self.assertIs(type(share), Share)
                self.same(fraction(share), Fraction(len(rows), prime ** plain_total(circuit)))
            self.same(len(layer_rows(circuit=circuit, teller=honest, inputs=inputs)), prime ** plain_total(circuit))
        self.new_list(layer_rows, SPREAD, LayerHonest(SPREAD, 5, [1]), [1])

    def test_the_field_is_that_of_the_teller(self):
        told = LayerTold(7, [6], [])
        self.same(layer_rows(BARE[0], told, [6]), [()])
        self.same(layer_rows(BARE[0], told, [0]), [])
        self.same(self.error(NotInField, layer_rows, BARE[0], told, [7]).value, 7)

    def test_wrong_inputs(self):
        alien = alien_teller(5, [1, 1], refuse)
        for call in (layer_rows, layer_share_of):
            for inputs in ([], [1], [1] * 3, ["wrong"] * 5):
                self.error(WrongPlaces, call, PAIR, alien, inputs)
                # They are looked at ahead of the number of rows.
                self.error(WrongPlaces, call, TALL, alien, inputs)
            self.same(self.error(NotInField, call, TALL, alien, [1, 1, 9, 8]).value, 9)
            self.no_number(5, lambda number: call(BARE[1], LayerTold(5, [0, 0], []), [1, number]))
        self.same(alien.asked, [])

    def test_number_of_flat_rows(self):
        ten = Circuit([adds((0, 0), (0, 0), (0, 0), (0, 1)), muls((0, 0)) + adds((0, 0)), muls((0, 0)),
                       adds((0, 0))], 1)
        for circuit, prime in ((CHAIN, 2), (BARE[2], 31), (EVEN, 101), (SPREAD, 31), (DEEP, 5), (ten, 2)):
            self.assertLessEqual(prime ** plain_total(circuit), 1024)
            inputs = [1] * circuit.width
            honest = LayerHonest(circuit, prime, inputs)
            self.same(layer_share_of(circuit, honest, inputs).text(), "1/1")
        wide = Circuit([adds((0, 1), (0, 0)), adds((0, 0), (0, 1)), muls((0, 1), (1, 1))], 2)
        self.same(2 ** plain_total(wide), 1024)
        self.same(layer_share_of(wide, LayerHonest(wide, 2, [1, 0]), [1, 0]).text(), "1/1")
        for circuit, prime in ((BARE[2], 37), (TALL, 2), (DEEP, 7), (SPREAD, 37), (ONE, 11), (QUAD, 3), (TALL, 101),
                               (wide, 3)):
            alien = alien_teller(prime, [0] * layer_bits(circuit)[0] ** 2, refuse)
            for call in (layer_rows, layer_share_of):
                self.error(TooLarge, call, circuit, alien, [1] * circuit.width)
            self.same(alien.asked, [])

    def test_it_asks_for_no_other_coins(self):
        inputs = [1, 2]
        honest = LayerHonest(PAIR, 3, inputs)
        # For the first coin 1 the first hand-in is broken.
        high = Poly(3, [0] * 9 + [1])
        alien = alien_teller(3, honest.outputs, lambda row: high if row == (1,) else honest.hand(list(row)))
        rows = layer_rows(PAIR, alien, inputs)
        self.same(rows, [row for row in all_points(3, 4) if row[0] != 1])
        asked = {row for many in (1, 2, 3) for row in all_points(3, many) if many == 1 or row[0] != 1}
        self.same(set(alien.asked), asked)
        alien = alien_teller(5, [3], refuse)
        self.same(layer_rows(BARE[0], alien, [3]), [()])
        self.same(alien.asked, [])

    def test_the_first_error_is_raised(self):
        answers = {(0, 1): WrongPlaces, (0, 2): OutOfRange, (1,): DivisionByZero}

        def answer(row):
            if row in answers:
                raise answers[row]()
            return Poly(3, [])

        alien = alien_teller(3, [0], answer)
        self.error(WrongPlaces, layer_rows, ONE, alien, [0, 1])
        self.same(sorted(set(alien.asked)), [(), (0,), (0, 0), (0, 1)])
        self.error(WrongPlaces, layer_share_of, ONE, alien, [0, 1])
        foreign = alien_teller(3, [0], lambda row: Poly(7, [1]) if row == (2, 0) else Poly(3, []))
        self.error(OtherField, layer_rows, ONE, foreign, [0, 1])

    def test_a_counted_teller(self):
        honest = LayerHonest(ONE, 2, [1, 1])
        counted = Counted(honest)
        counted.outputs = honest.outputs
        self.same(layer_share_of(ONE, counted, [1, 1]).text(), "1/1")
        self.assertGreaterEqual(counted.calls, 7)

    def test_things_are_defined_in_their_places(self):
        for thing in (layer_bound, layer_rows, layer_search, layer_search_cost, layer_share_of, lucky_hand_in):
            self.same(thing.__module__, "sumtalk.layershares")
            self.assertIs(getattr(layershares, thing.__name__), thing)


class Bounds(Case):
    def test_layer_bound(self):
        for circuit in CIRCUITS:
            bits = layer_bits(circuit)
            for prime in (2, 3, 5, 101):
                rest = (1 - Fraction(1, prime)) ** bits[0]
                for h in bits[1:]:
                    rest *= (1 - Fraction(min(2, prime - 1), prime)) ** (2 * h)
                    rest *= 1 - Fraction(min(h, prime - 1), prime)
                share = layer_bound(circuit=circuit, prime=prime)
                self.assertIs(type(share), Share)
                self.same(fraction(share), 1 - rest)
        self.same([layer_bound(circuit, 5).text() for circuit in BARE], ["0/1", "1/5", "9/25"])
        self.no_prime(lambda prime: layer_bound(ONE, prime))

    def test_no_false_teller_exceeds_it(self):
        for circuit, prime in ((ONE, 2), (ONE, 3), (PAIR, 2), (SPREAD, 5), (QUAD, 2), (STEPS, 2), (NARROW, 2),
                               (CHAIN, 2), (BARE[1], 5), (BARE[2], 3), (DEEP, 3), (SMALL, 2)):
            for seed in range(3):
                inputs = some_numbers(prime, circuit.width, seed)
                for outputs in false_outputs(circuit, prime, inputs):
                    search = layer_search(circuit, prime, inputs, outputs)
                    self.assertTrue(search.at_most(layer_bound(circuit, prime)))
                    liar = layer_share_of(circuit, LayerLiar(circuit, prime, inputs, outputs), inputs)
                    self.assertTrue(liar.at_most(search))

    def test_share_of_the_liar(self):
        for circuit, prime in ((ONE, 3), (PAIR, 3), (SPREAD, 5), (QUAD, 2), (STEPS, 2), (SMALL, 2), (BARE[0], 5),
                               (BARE[1], 7), (BARE[2], 5)):
            inputs = some_numbers(prime, circuit.width, 2)
            true = plain_values(circuit, prime, inputs)[0]
            for outputs in false_outputs(circuit, prime, inputs):
                share = layer_share_of(circuit, LayerLiar(circuit, prime, inputs, outputs), inputs)
                apart = zero_share(filling(prime, outputs) - filling(prime, true))
                if circuit.depth == 0:
                    self.assertEqual(share, apart)
                else:
                    least = apart.either(rule_share(prime, [2] * (2 * layer_bits(circuit)[1])))
                    self.assertTrue(least.at_most(share))


class Searching(Case):
    def test_cost(self):
        for circuit in CIRCUITS:
            for prime in (2, 3, 5, 7, 101):
                self.same(layer_search_cost(circuit=circuit, prime=prime), plain_cost(circuit, prime))
        self.same(layer_search_cost(ONE, 2), 161)
        self.no_prime(lambda prime: layer_search_cost(ONE, prime))

    def test_search(self):
        for circuit, prime in ((ONE, 2), (ONE, 3), (PAIR, 2), (PAIR, 3), (SPREAD, 2), (SPREAD, 7), (SQUARE, 17),
                               (EVEN, 5), (QUAD, 2), (SMALL, 2), (STEPS, 2), (NARROW, 2), (CHAIN, 2), (DEEP, 2),
                               (DEEP, 7), (BARE[0], 101), (BARE[1], 7), (BARE[2], 5)):
            for seed in range(2):
                inputs = some_numbers(prime, circuit.width, seed)
                true = plain_values(circuit, prime, inputs)[0]
                for outputs in (true, *false_outputs(circuit, prime, inputs)):
                    share = self.keeps(lambda row, told: layer_search(circuit, prime, row, told), inputs, outputs)
                    self.assertIs(type(share), Share)
                    self.same(fraction(share), plain_search(circuit, prime, inputs, outputs))
                self.same(layer_search(circuit=circuit, prime=prime, inputs=inputs, outputs=true).text(), "1/1")

    def test_search_finds_the_best_of_all_tellers(self):
        for circuit, prime in ((ONE, 2), (SPREAD, 2), (SPREAD, 3), (SQUARE, 3), (DEEP, 2), (PAIR, 2), (BARE[2], 3)):
            for seed in (1, 2):
                inputs = some_numbers(prime, circuit.width, seed)
                for outputs in false_outputs(circuit, prime, inputs):
                    self.same(fraction(layer_search(circuit, prime, inputs, outputs)),
                              best_of_all_tellers(circuit, prime, inputs, outputs))

    def test_bound_on_the_cost(self):
        # Also with more than 1,024 start points, and for true outputs.
        for circuit, prime in ((BARE[2], 73), (BARE[2], 37), (EVEN, 17), (DEEP, 11), (SPREAD, 7), (PAIR, 3), (QUAD, 2),
                               (BARE[1], 101)):
            self.assertLessEqual(plain_cost(circuit, prime), 6000)
            inputs = some_numbers(prime, circuit.width, 3)
            self.same(layer_search(circuit, prime, inputs, plain_values(circuit, prime, inputs)[0]).text(), "1/1")
        inputs = [3, 1, 0, 4]
        self.same(fraction(layer_search(BARE[2], 73, inputs, [4, 1, 0, 4])), Fraction(145, 5329))
        for circuit, prime in ((BARE[2], 79), (BARE[2], 101), (EVEN, 19), (DEEP, 13), (SPREAD, 11), (PAIR, 5),
                               (QUAD, 3), (TALL, 2), (ONE, 5), (SMALL, 3)):
            self.assertGreater(plain_cost(circuit, prime), 6000)
            inputs = [1] * circuit.width
            self.error(TooLarge, layer_search, circuit, prime, inputs, plain_values(circuit, prime, inputs)[0])

    def test_costs_just_below_and_above_the_bound(self):
        # No circuit costs more up to 6,000 than the first one, and none above 6,000 costs less than the second one.
        for widths, cost in (((2, 4, 4, 1, 1), 5994), ((1, 2, 4, 4), 6113)):
            circuit = Circuit([adds(*[(0, 0)] * many) for many in widths[:-1]], widths[-1])
            self.same(layer_search_cost(circuit, 2), cost)
            inputs = [1] * circuit.width
            outputs = plain_values(circuit, 2, inputs)[0]
            if cost <= 6000:
                self.same(layer_search(circuit, 2, inputs, outputs).text(), "1/1")
            else:
                self.error(TooLarge, layer_search, circuit, 2, inputs, outputs)

    def test_wrong_arguments(self):
        self.no_prime(lambda prime: layer_search(TALL, prime, "wrong", "wrong"))
        for inputs in ([], [1] * 3, [1] * 5, ["wrong"] * 6):
            self.error(WrongPlaces, layer_search, TALL, 5, inputs, "wrong")
        self.same(self.error(NotInField, layer_search, TALL, 5, [1, 9, 8, 1], []).value, 9)
        for outputs in ([], [1], [1] * 3, ["wrong"] * 6):
            self.error(WrongPlaces, layer_search, TALL, 5, [1] * 4, outputs)
        self.same(self.error(NotInField, layer_search, TALL, 5, [1] * 4, [9, 8]).value, 9)
        self.no_number(3, lambda number: layer_search(PAIR, 3, [1, number], [1, 1]))
        self.no_number(3, lambda number: layer_search(PAIR, 3, [1, 1], [1, number]))


class Luck(Case):
    def plain_lucky(self, circuit, journal, inputs):
        bits = layer_bits(circuit)
        owed = [plain_filling(journal.prime, journal.outputs, journal.start)]
        owed += [plain_at(journal.prime, poly.coefficients, coin) for poly, coin in journal.rounds]
        for k in range(min(journal.length, len(plain_schedule(circuit))) + 1):
            if true_owed(circuit, journal.prime, inputs, journal.coins[:bits[0] + k])[-1] == owed[k]:
                return k
        return None

    def test_lucky_hand_in(self):
        met = set()
        for circuit in CIRCUITS:
            for prime in (2, 3, 101):
                inputs = some_numbers(prime, circuit.width, 2)
                for outputs in false_outputs(circuit, prime, inputs):
                    for teller in (LayerLiar(circuit, prime, inputs, outputs), LayerTold(prime, outputs, [])):
                        for seed in range(4):
                            coins = some_coins(circuit, prime, seed)
                            journal = layer_talk(circuit, teller, coins)
                            rounds = journal.rounds + ((Poly(prime, [1]), 1),) * (32 - journal.length)
                            longest = LayerJournal(prime, outputs, journal.start, rounds)
                            for one in (journal, longest, journal.cut(journal.length // 2), journal.cut(0)):
                                found = self.keeps(lambda row: lucky_hand_in(circuit, one, row), inputs)
                                self.same(found, self.plain_lucky(circuit, one, inputs))
                                met.add(found)
        self.assertLessEqual({None, 0, 1, 2}, met)

    def test_a_start_that_is_lucky(self):
        start = LayerJournal(5, [0, 1], [0], [])
        self.same(lucky_hand_in(circuit=BARE[1], journal=start, inputs=[0, 4]), 0)
        self.same(lucky_hand_in(BARE[1], LayerJournal(5, [0, 1], [1], []), [0, 4]), None)
        # Rounds that no schedule has are not looked at.
        self.same(lucky_hand_in(BARE[1], LayerJournal(5, [0, 1], [1], [(Poly(5, [4]), 0)] * 3), [0, 4]), None)

    def test_every_journal_that_is_let_by_has_one(self):
        for circuit, prime in ((ONE, 2), (ONE, 3), (PAIR, 3), (STEPS, 2), (QUAD, 2), (SPREAD, 5)):
            inputs = some_numbers(prime, circuit.width, 1)
            bits = layer_bits(circuit)[0]
            for outputs in false_outputs(circuit, prime, inputs):
                liar = LayerLiar(circuit, prime, inputs, outputs)
                for row in layer_rows(circuit, liar, inputs):
                    journal = layer_talk(circuit, liar, row)
                    k = lucky_hand_in(circuit, journal, inputs)
                    self.assertIsNotNone(k)
                    if k > 0:
                        poly, coin = journal.rounds[k - 1]
                        true_poly = true_hand_in(circuit, prime, inputs, journal.coins[:bits + k - 1])
                        self.assertFalse(poly == true_poly)
                        self.same((poly - true_poly).at(coin), 0)

    def test_honest_journals_are_lucky_at_the_start(self):
        for circuit in CIRCUITS:
            inputs = some_numbers(5, circuit.width, 2)
            journal = layer_talk(circuit, LayerHonest(circuit, 5, inputs), some_coins(circuit, 5, 1))
            self.same(lucky_hand_in(circuit, journal, inputs), 0)
            self.same(coin_total(circuit), len(journal.coins))

    def test_wrong_arguments(self):
        journal = LayerJournal(5, [1, 1], [0], [])
        for inputs in ([], [1], [1] * 3, ["wrong"] * 5):
            self.error(WrongPlaces, lucky_hand_in, PAIR, journal, inputs)
        self.no_number(5, lambda number: lucky_hand_in(PAIR, journal, [1, number]))
        for wrong in (LayerJournal(5, [1], [0], []), LayerJournal(5, [1, 1], [], []),
                      LayerJournal(5, [1, 1], [0, 0], []), LayerJournal(5, [1], [], []),
                      LayerJournal(5, [1] * 4, [0, 0], [])):
            self.error(WrongPlaces, lucky_hand_in, PAIR, wrong, [1, 1])
            self.same(self.error(NotInField, lucky_hand_in, PAIR, wrong, [1, 9]).value, 9)
