"""Points [74] to [76] and the entry sumtalk/layertellers.py."""

from fractions import Fraction

from sumtalk import layertellers
from sumtalk.circuits import layer_form
from sumtalk.counts import rule_share, zero_share
from sumtalk.errors import NotInField, Repeated, TooLarge, WrongPlaces
from sumtalk.fillings import filling, round_poly, tail_sum
from sumtalk.layers import coin_total, judge_layers, layer_talk, line_poly
from sumtalk.layertellers import LayerHonest, LayerLiar, LayerTold, true_hand_in, true_owed
from sumtalk.liars import best_unit
from sumtalk.polys import Poly
from sumtalk.tellers import Rows, Teller, hand_ins
from helper import Case, all_points
from layer_helper import (ADD, BARE, CHAIN, CIRCUITS, EVEN, MUL, ONE, PAIR, QUAD, SMALL, SPREAD, SQUARE, STEPS,
                          layer_bits, plain_at, plain_filling, plain_line, plain_schedule, plain_total, plain_values,
                          plain_wiring, some_coins, some_numbers)

LET_BY = (None, "let by")


def plain_steps(circuit, prime, inputs, coins):
    """For the coins behind the start: the triples of the true owed number ahead, the true hand-in, and the layer's
    number, z and own coins; and the true owed number behind all of them."""
    bits, tables = layer_bits(circuit), plain_values(circuit, prime, inputs)
    z, own, steps = tuple(coins[:bits[0]]), (), []
    owed = plain_filling(prime, tables[0], z)
    for (layer, what, _), coin in zip(plain_schedule(circuit), list(coins[bits[0]:]) + [None]):
        half = bits[layer + 1]
        if what == "round":
            form = layer_form(circuit, prime, inputs, layer, z)
            hand_in = round_poly(form, own)
        else:
            hand_in = line_poly(prime, tables[layer + 1], own[:half], own[half:])
        steps.append((owed, hand_in, (layer, what, z, own)))
        if coin is None:
            break
        if what == "round":
            own += (coin,)
            owed = tail_sum(form, own)
        else:
            z, own = plain_line(prime, own[:half], own[half:], coin), ()
            owed = plain_filling(prime, tables[layer + 1], z)
    return steps, owed


def plain_liar(circuit, prime, inputs, outputs, coins):
    """The hand-in of the layer liar, by the words of the document."""
    bits, tables = layer_bits(circuit), plain_values(circuit, prime, inputs)
    steps, _ = plain_steps(circuit, prime, inputs, coins)
    unit = best_unit(prime, 2)
    start = coins[:bits[0]]
    e = (plain_filling(prime, outputs, start) - plain_filling(prime, tables[0], start)) % prime
    for (_, hand_in, (layer, what, z, own)), coin in zip(steps, list(coins[bits[0]:]) + [None]):
        half = bits[layer + 1]
        added, behind = [], 0
        if what == "round":
            added = [e * number for number in unit.coefficients]
        elif e != 0:
            x, y = own[:half], own[half:]
            w = plain_filling(prime, tables[layer + 1], y)
            divisor = (plain_wiring(circuit, prime, layer, ADD, z, x, y)
                       + plain_wiring(circuit, prime, layer, MUL, z, x, y) * w) % prime
            if half >= 1 and divisor != 0:
                c = e * pow(divisor, -1, prime)
                added = [c, -c]
        if coin is None:
            return hand_in + Poly(prime, [number % prime for number in added])
        e = plain_at(prime, added, coin) % prime


def counted_share(circuit, teller, inputs):
    rows = all_points(teller.prime, coin_total(circuit))
    fit = [row for row in rows if judge_layers(circuit, layer_talk(circuit, teller, row), inputs) == LET_BY]
    return Fraction(len(fit), len(rows))


def fraction(share):
    return Fraction(share.top, share.bottom)


class Truth(Case):
    def test_true_owed_numbers(self):
        for circuit in CIRCUITS:
            bits = layer_bits(circuit)[0]
            for prime, seed in ((2, 1), (3, 2), (101, 3), (101, 4)):
                inputs = some_numbers(prime, circuit.width, seed)
                coins = some_coins(circuit, prime, seed)
                for many in range(bits, len(coins) + 1):
                    steps, last = plain_steps(circuit, prime, inputs, coins[:many])
                    expected = [owed for owed, _, _ in steps][:many - bits] + [last]
                    found = self.keeps(lambda row, own: true_owed(circuit, prime, row, own), inputs, coins[:many])
                    self.same(found, expected)
        self.same(true_owed(circuit=EVEN, prime=5, inputs=[4], coins=[]), [3])
        self.same(true_owed(EVEN, 5, [4], [2]), [3, 4])
        self.new_list(true_owed, EVEN, 5, [4], [2])

    def test_true_owed_numbers_without_layers(self):
        for circuit, inputs, start in zip(BARE, ([3], [3, 1], [3, 1, 0, 4]), ([], [2], [2, 3])):
            self.same(true_owed(circuit, 5, inputs, start), [plain_filling(5, inputs, start)])

    def test_true_hand_ins(self):
        for circuit in CIRCUITS:
            bits = layer_bits(circuit)[0]
            for prime, seed in ((2, 1), (3, 2), (101, 3), (101, 4)):
                inputs = some_numbers(prime, circuit.width, seed)
                coins = some_coins(circuit, prime, seed)
                honest = LayerHonest(circuit, prime, inputs)
                for many in range(bits, len(coins)):
                    steps, _ = plain_steps(circuit, prime, inputs, coins[:many])
                    found = true_hand_in(circuit, prime, inputs, coins[:many])
                    self.assertEqual(found, steps[-1][1])
                    self.same(found.coefficients,
                              self.keeps(lambda row, own: true_hand_in(circuit, prime, row, own).coefficients,
                                         inputs, coins[:many]))
                    self.same(self.keeps(lambda own: honest.hand(own).coefficients, coins[:many]), found.coefficients)
                    self.assertLessEqual(found.degree, plain_schedule(circuit)[many - bits][2])
        self.same(true_hand_in(circuit=SQUARE, prime=5, inputs=[3], coins=[]).text(), "5 3")

    def test_wrong_arguments(self):
        for call in (true_owed, true_hand_in):
            self.no_prime(lambda prime: call(PAIR, prime, "wrong", "wrong"))
            for inputs in ([], [1], [1] * 3, ["wrong"] * 4):
                self.error(WrongPlaces, call, PAIR, 5, inputs, "wrong")
            self.no_number(5, lambda number: call(PAIR, 5, [1, number], [1]))
            self.same(self.error(NotInField, call, PAIR, 5, [9, 8], []).value, 9)
            self.no_number(5, lambda coin: call(PAIR, 5, [1, 1], [1, coin]))
            self.same(self.error(NotInField, call, PAIR, 5, [1, 1], [1, 9, 8]).value, 9)

    def test_number_of_coins(self):
        for circuit in CIRCUITS:
            inputs = [1] * circuit.width
            least, most = layer_bits(circuit)[0], plain_total(circuit)
            for many in range(most + 3):
                for item in (1, "wrong"):
                    coins = [item] * many
                    if not least <= many <= most:
                        self.error(WrongPlaces, true_owed, circuit, 5, inputs, coins)
                    if not least <= many < most:
                        self.error(WrongPlaces, true_hand_in, circuit, 5, inputs, coins)
                        liar = LayerLiar(circuit, 5, inputs, [1] * 2 ** least)
                        for teller in (LayerHonest(circuit, 5, inputs), liar):
                            self.error(WrongPlaces, teller.hand, coins)
            self.error(WrongPlaces, true_owed, circuit, 5, inputs, [1] * 40)

    def test_things_are_defined_in_their_places(self):
        for thing in (LayerHonest, LayerLiar, LayerTold):
            self.assertIn("__init__", vars(thing))
            self.assertIn("hand", vars(thing))
        for thing in (LayerHonest, LayerLiar, LayerTold, true_hand_in, true_owed):
            self.same(thing.__module__, "sumtalk.layertellers")
            self.assertIs(getattr(layertellers, thing.__name__), thing)


class Honest(Case):
    def test_outputs(self):
        for circuit in CIRCUITS:
            for prime in (2, 101):
                inputs = some_numbers(prime, circuit.width, 3)
                teller = LayerHonest(circuit=circuit, prime=prime, inputs=inputs)
                self.assertIsInstance(teller, Teller)
                self.same((teller.prime, teller.outputs), (prime, tuple(plain_values(circuit, prime, inputs)[0])))
                self.assertLessEqual({"prime", "outputs"}, set(vars(teller)))

    def test_it_is_let_by_with_all_coins(self):
        for circuit, prime in ((ONE, 2), (ONE, 5), (PAIR, 3), (SPREAD, 7), (QUAD, 2), (EVEN, 101), (STEPS, 2),
                               (BARE[2], 3), (SMALL, 2)):
            for seed in range(3):
                inputs = some_numbers(prime, circuit.width, seed)
                self.same(counted_share(circuit, LayerHonest(circuit, prime, inputs), inputs), Fraction(1))

    def test_a_row_that_is_changed_behind_the_call(self):
        inputs = [1, 2]
        honest = LayerHonest(PAIR, 5, inputs)
        liar = LayerLiar(PAIR, 5, inputs, outputs := [0, 0])
        hand_in, lie = honest.hand([3]), liar.hand([3])
        inputs[0], outputs[0] = 4, 4
        self.assertEqual(honest.hand([3]), hand_in)
        self.assertEqual(liar.hand([3]), lie)
        self.same((honest.outputs, liar.outputs), ((3, 4), (0, 0)))

    def test_wrong_arguments(self):
        self.no_prime(lambda prime: LayerHonest(PAIR, prime, "wrong"))
        for inputs in ([], [1], [1] * 3, ["wrong"] * 4):
            self.error(WrongPlaces, LayerHonest, PAIR, 5, inputs)
        self.no_number(5, lambda number: LayerHonest(PAIR, 5, [1, number]))

    def test_hand_ins_behind_the_start_alone(self):
        honest = LayerHonest(ONE, 5, [2, 3])
        self.same(len(hand_ins(honest, [1, 2])), 2)
        self.error(WrongPlaces, hand_ins, LayerHonest(PAIR, 5, [2, 3]), [1, 2])


class Liars(Case):
    def test_hand_ins(self):
        for circuit in CIRCUITS:
            bits = layer_bits(circuit)[0]
            for prime in (2, 3, 101):
                for seed in range(4):
                    inputs = some_numbers(prime, circuit.width, seed)
                    outputs = some_numbers(prime, 2 ** bits, seed + 1)
                    liar = LayerLiar(circuit, prime, inputs, outputs)
                    self.assertIsInstance(liar, Teller)
                    self.same((liar.prime, liar.outputs), (prime, tuple(outputs)))
                    coins = some_coins(circuit, prime, seed + 2)
                    for many in range(bits, len(coins)):
                        hand_in = self.keeps(lambda row: liar.hand(row).coefficients, coins[:many])
                        expected = plain_liar(circuit, prime, inputs, outputs, coins[:many])
                        self.same(hand_in, expected.coefficients)

    def test_hand_ins_for_all_coins(self):
        # Among them are those behind broken hand-ins, and lines whose divisor is 0.
        for circuit, prime in ((ONE, 3), (PAIR, 3), (STEPS, 2), (SPREAD, 5), (QUAD, 2), (CHAIN, 2), (EVEN, 5)):
            inputs = some_numbers(prime, circuit.width, 1)
            true = plain_values(circuit, prime, inputs)[0]
            for outputs in ([(number + 1) % prime for number in true], [(true[0] + 1) % prime] + true[1:]):
                liar = LayerLiar(circuit=circuit, prime=prime, inputs=tuple(inputs), outputs=tuple(outputs))
                for many in range(layer_bits(circuit)[0], plain_total(circuit)):
                    for coins in all_points(prime, many):
                        self.same(liar.hand(list(coins)).coefficients,
                                  plain_liar(circuit, prime, inputs, outputs, coins).coefficients)

    def test_with_the_true_outputs_it_is_the_honest_teller(self):
        for circuit in CIRCUITS:
            inputs = some_numbers(5, circuit.width, 2)
            honest = LayerHonest(circuit, 5, inputs)
            liar = LayerLiar(circuit, 5, inputs, honest.outputs)
            coins = some_coins(circuit, 5, 1)
            self.assertEqual(layer_talk(circuit, liar, coins), layer_talk(circuit, honest, coins))

    def test_shares(self):
        for circuit, prime in ((ONE, 2), (ONE, 5), (PAIR, 3), (SPREAD, 7), (QUAD, 2), (EVEN, 101), (SQUARE, 101),
                               (STEPS, 2), (BARE[0], 5), (BARE[1], 7), (BARE[2], 5), (SMALL, 2)):
            for seed in range(2):
                inputs = some_numbers(prime, circuit.width, seed)
                true = plain_values(circuit, prime, inputs)[0]
                for outputs in ([(number + 1) % prime for number in true], [(true[0] + 1) % prime] + true[1:]):
                    share = counted_share(circuit, LayerLiar(circuit, prime, inputs, outputs), inputs)
                    apart = fraction(zero_share(filling(prime, outputs) - filling(prime, true)))
                    if circuit.depth == 0:
                        self.same(share, apart)
                        continue
                    rule = fraction(rule_share(prime, [2] * (2 * layer_bits(circuit)[1])))
                    self.assertGreaterEqual(share, apart + rule - apart * rule)

    def test_wrong_arguments(self):
        self.no_prime(lambda prime: LayerLiar(PAIR, prime, "wrong", "wrong"))
        for inputs in ([], [1], [1] * 3, ["wrong"] * 4):
            self.error(WrongPlaces, LayerLiar, PAIR, 5, inputs, [])
        self.no_number(5, lambda number: LayerLiar(PAIR, 5, [1, number], [1, 1]))
        self.same(self.error(NotInField, LayerLiar, PAIR, 5, [9, 1], []).value, 9)
        for outputs in ([], [1], [1] * 3, ["wrong"] * 5):
            self.error(WrongPlaces, LayerLiar, PAIR, 5, [1, 1], outputs)
        self.no_number(5, lambda number: LayerLiar(PAIR, 5, [1, 1], [1, number]))
        self.error(WrongPlaces, LayerLiar, BARE[1], 5, [1, 1], [1])


class Told(Case):
    def test_hand_ins(self):
        rows = [([], [1, 2]), ([0], [3]), ([4, 1], [0, 0, 1, 0])]
        for outputs, told_rows in (([4, 0], rows), ((4, 0), tuple(rows)), ([4, 0], [list(pair) for pair in rows])):
            teller = LayerTold(prime=5, outputs=outputs, rows=told_rows)
            self.assertIsInstance(teller, Rows)
            self.same((teller.prime, teller.outputs), (5, (4, 0)))
            self.assertLessEqual({"prime", "outputs"}, set(vars(teller)))
            for coins, expected in (([], (1, 2)), ([0], (3,)), ([4, 1], (0, 0, 1)), ([1], ()), ([1, 4], ()),
                                    ([1] * 40, ())):
                self.same(self.keeps(lambda row: teller.hand(coins=row).coefficients, coins), expected)
        self.same(LayerTold(2, [], []).outputs, ())
        self.same(LayerTold(2, [1] * 4, []).outputs, (1, 1, 1, 1))

    def test_a_row_that_is_changed_behind_the_call(self):
        outputs, rows = [1], [[[0], [3]]]
        teller = LayerTold(5, outputs, rows)
        outputs.append(2)
        rows[0][0][0] = 1
        rows.append([[1], [1]])
        self.same((teller.outputs, teller.hand([0]).coefficients, teller.hand([1]).coefficients), ((1,), (3,), ()))

    def test_a_whole_talk(self):
        inputs = [2, 3]
        honest = LayerHonest(ONE, 5, inputs)
        rows = [(coins, honest.hand(list(coins)).coefficients) for many in range(3) for coins in all_points(5, many)]
        told = LayerTold(5, honest.outputs, rows)
        for coins in all_points(5, 3):
            self.assertEqual(layer_talk(ONE, told, coins), layer_talk(ONE, honest, coins))

    def test_wrong_arguments(self):
        self.no_prime(lambda prime: LayerTold(prime, ["wrong"] * 5, [("wrong", "wrong")] * 1025))
        self.error(TooLarge, LayerTold, 5, [0] * 5, [])
        self.error(TooLarge, LayerTold, 5, ["wrong"] * 5, [([9], [])])
        self.no_number(5, lambda number: LayerTold(5, [1, number], []))
        self.same(self.error(NotInField, LayerTold, 5, [9], [([8], [])] * 1025).value, 9)
        self.error(TooLarge, LayerTold, 5, [1], [([], [])] * 1025)
        self.error(TooLarge, LayerTold, 5, [1], [([0] * 33, [])])
        self.error(TooLarge, LayerTold, 5, [1], [([0], [0] * 129)])
        self.error(Repeated, LayerTold, 5, [1], [([0], [1]), ([0], [])])
        self.no_number(5, lambda coin: LayerTold(5, [1], [([0, coin], [])]))
        self.no_number(5, lambda number: LayerTold(5, [1], [([0], [1, number])]))
