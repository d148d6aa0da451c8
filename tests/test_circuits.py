"""Points [64] to [68] and the entry sumtalk/circuits.py."""

import itertools

from sumtalk import circuits
from sumtalk.circuits import Circuit, circuit_values, layer_form, read_circuit, wiring_at
from sumtalk.errors import BadText, NotCircuit, NotInField, OutOfRange, TooLarge, WrongPlaces
from sumtalk.fillings import corner_sum, filling
from sumtalk.forms import Form, constant_form, place_form
from helper import Case, HUGE, NO_TEXTS, OTHER_KINDS, all_points
from layer_helper import (ADD, BARE, CIRCUITS, EVEN, MUL, ONE, PAIR, QUAD, SMALL, SPREAD, SQUARE, STEPS, TALL, adds,
                          corner_of, layer_bits, muls, plain_filling, plain_layer_value, plain_values, plain_wiring,
                          some_numbers)


class Equal:
    """A thing that says it is equal to everything."""

    def __eq__(self, other):
        return True


WRONG_KINDS = ("", "Add", "ADD", "add ", "sub", "a", b"add", None, 0, True, ["add"], ("add",), {"add": 1}, Equal())
WRONG_INDEXES = (-1, 2, 4, True, False, None, "0", 0.0, [0], 10 ** 400)


def written(circuit):
    return circuit.text()


def formal_layer_form(circuit, prime, inputs, layer, z):
    """The layer form, multiplied out from the forms of the places."""
    bits = layer_bits(circuit)[layer + 1]
    places = 2 * bits
    one = constant_form(prime, places, 1)

    def weight(index, ahead):
        form = one
        for at, bit in enumerate(corner_of(bits, index)):
            place = place_form(prime, places, ahead + at + 1)
            form = form * (place if bit else one - place)
        return form

    def values(ahead):
        form = constant_form(prime, places, 0)
        for index, value in enumerate(plain_values(circuit, prime, inputs)[layer + 1]):
            form = form + weight(index, ahead).scale(value)
        return form

    def wiring(kind):
        form = constant_form(prime, places, 0)
        for index, (own, left, right) in enumerate(circuit.layers[layer]):
            if own == kind:
                gate = plain_filling(prime, [int(at == index) for at in range(len(circuit.layers[layer]))], z)
                form = form + (weight(left, 0) * weight(right, bits)).scale(gate)
        return form

    return wiring(ADD) * (values(0) + values(bits)) + wiring(MUL) * values(0) * values(bits)


class Making(Case):
    def test_attributes(self):
        layers = [[[MUL, 0, 1]], [[ADD, 0, 0], [ADD, 0, 1]]]
        expected = (((MUL, 0, 1),), ((ADD, 0, 0), (ADD, 0, 1)))
        for made in (Circuit(layers, 2), Circuit(layers=expected, width=2), Circuit([expected[0], layers[1]], 2)):
            self.same((made.layers, made.width, made.widths, made.depth), (expected, 2, (1, 2, 2), 2))
            self.assertLessEqual({"layers", "width", "widths"}, set(vars(made)))
        self.same(layers, [[[MUL, 0, 1]], [[ADD, 0, 0], [ADD, 0, 1]]])
        for width, made in zip((1, 2, 4), BARE):
            self.same((made.layers, made.width, made.widths, made.depth), ((), width, (width,), 0))
        self.same((TALL.widths, TALL.depth), ((2, 4, 4, 2, 4), 4))

    def test_rows_that_are_changed_behind_the_call(self):
        gate = [MUL, 0, 1]
        layer = [gate]
        layers = [layer]
        made = Circuit(layers, 2)
        gate[0], gate[1] = ADD, 1
        layer.append([ADD, 0, 0])
        layers.append([[ADD, 0, 0]])
        self.assertEqual(made, ONE)
        self.same((made.text(), made.depth, made.widths), ("mul 0 1\ninputs 2", 1, (1, 2)))

    def test_number_of_layers(self):
        gate = [(ADD, 0, 0)]
        self.same(Circuit([gate] * 4, 1).depth, 4)
        for width in (1, 3, None, "wrong"):
            self.error(TooLarge, Circuit, [gate] * 5, width)
            self.error(TooLarge, Circuit, ([],) * 5, width)
            self.error(TooLarge, Circuit, [[("wrong",)]] * 6, width)

    def test_numbers_of_gates_and_inputs(self):
        for many in (0, 3, 5, 6, 7, 8, 16, 100):
            self.error(NotCircuit, Circuit, [[(ADD, 0, 0)] * many], 1)
            self.error(NotCircuit, Circuit, [[(ADD, 0, 0)], [(ADD, 0, 0)] * many], 1)
        for width in (0, 3, 5, 6, 8, -1, -2) + HUGE + OTHER_KINDS:
            self.error(NotCircuit, Circuit, [], width)
            self.error(NotCircuit, Circuit, [[(ADD, 0, 0)]], width)
        for many, width in itertools.product((1, 2, 4), repeat=2):
            made = Circuit([[(ADD, 0, width - 1)] * many], width)
            self.same(made.widths, (many, width))

    def test_gates(self):
        for kind in WRONG_KINDS:
            self.error(NotCircuit, Circuit, [[(kind, 0, 0)]], 2)
        for index in WRONG_INDEXES:
            self.error(NotCircuit, Circuit, [[(ADD, 0, index)]], 2)
            self.error(NotCircuit, Circuit, [[(MUL, 0, 0), (MUL, index, 1)]], 2)
        for gate in ((), (ADD,), (ADD, 0), (ADD, 0, 0, 0), [MUL, 0, 0, 0, 0]):
            self.error(NotCircuit, Circuit, [[gate]], 2)
        # An index is one of the layer just below.
        self.error(NotCircuit, Circuit, [[(ADD, 0, 1)], [(ADD, 0, 3)]], 4)
        self.error(NotCircuit, Circuit, [[(ADD, 0, 3)], adds((0, 0), (0, 0))], 4)
        self.same(Circuit([[(ADD, 1, 1)], adds((0, 3), (3, 0))], 4).depth, 2)

    def test_bits(self):
        for made in CIRCUITS:
            self.same([made.bits(layer) for layer in range(made.depth + 1)], layer_bits(made))
            self.no_range(0, made.depth, made.bits)
        self.same(TALL.bits(layer=4), 2)

    def test_equality(self):
        self.same(ONE == Circuit(([[MUL, 0, 1]],), 2), True)
        self.same(Circuit([], 2) == Circuit((), 2), True)
        for other in (Circuit([muls((0, 1))], 4), Circuit([muls((1, 0))], 2), Circuit([adds((0, 1))], 2), STEPS,
                      Circuit([], 2), Circuit([muls((0, 1), (0, 1))], 2), ONE.layers, ONE.text(), None, 2):
            self.same(ONE == other, False)
            self.same(other == ONE, False)
        for left, right in itertools.product(range(len(CIRCUITS)), repeat=2):
            self.same(CIRCUITS[left] == CIRCUITS[right], left == right)

    def test_things_are_defined_in_their_places(self):
        for name in ("__init__", "__eq__", "bits", "depth", "text"):
            self.assertIn(name, vars(Circuit))
        self.assertIsInstance(vars(Circuit)["depth"], property)
        for thing in (Circuit, circuit_values, layer_form, read_circuit, wiring_at):
            self.same(thing.__module__, "sumtalk.circuits")
            self.assertIs(getattr(circuits, thing.__name__), thing)


class Texts(Case):
    def test_text(self):
        self.same(STEPS.text(), "mul 0 1\nadd 0 0 add 0 1\ninputs 2")
        self.same(QUAD.text(), "add 3 0 add 1 1 mul 2 3 mul 0 0\ninputs 4")
        self.same([made.text() for made in BARE], ["inputs 1", "inputs 2", "inputs 4"])

    def test_read_back(self):
        for made in CIRCUITS:
            again = read_circuit(text=made.text())
            self.assertEqual(again, made)
            self.same((again.layers, again.width), (made.layers, made.width))

    def test_texts_that_differ_in_one_place(self):
        for made in (BARE[1], ONE, STEPS, SPREAD):
            self.reads_its_own(read_circuit, written, made.text())

    def test_bad_texts(self):
        for text in ("", "\n", "inputs", "inputs 0", "inputs 3", "inputs 02", "inputs -1", "input 2", "Inputs 2",
                     "inputs 2\n", "\ninputs 2", " inputs 2", "inputs 2 ", "inputs  2", "inputs 2 2", "mul 0 1",
                     "mul 0 1\ninputs 1", "mul 0 1\n\ninputs 2", "inputs 2\nmul 0 1", "mul 0 1 inputs 2",
                     "mul 0\ninputs 2", "mul 0 1 0\ninputs 2", "0 mul 1\ninputs 2", "mul 0 01\ninputs 2",
                     "mul 0 -\ninputs 2", "mul.0.1\ninputs 2", "mul 0 1 mul 0 1 mul 0 1\ninputs 2",
                     "mul 0 1\r\ninputs 2", "sub 0 1\ninputs 2", "mul 0 2\ninputs 2", "mul 0 +1\ninputs 2",
                     "add 0 0\n" * 5 + "inputs 1", "add 0 0\n" * 5000 + "inputs 1", "inputs " + "1" * 301,
                     "mul 0 " + "1" * 301 + "\ninputs 2", "inputs 1" + "0" * 20000):
            with self.subTest(text[:30]):
                self.error(BadText, read_circuit, text)
        self.same(read_circuit("add 0 0\n" * 4 + "inputs 1").depth, 4)
        for value in NO_TEXTS + (ONE,):
            self.error(BadText, read_circuit, value)


class Values(Case):
    def test_circuit_values(self):
        for made in CIRCUITS:
            for prime in (2, 3, 5, 101):
                for seed in range(4):
                    inputs = some_numbers(prime, made.width, seed)
                    found = self.keeps(lambda row: circuit_values(made, prime, row), inputs)
                    self.same(found, plain_values(made, prime, inputs))
        self.same(circuit_values(circuit=STEPS, prime=7, inputs=[2, 3]), [[6], [4, 5], [2, 3]])
        self.same(circuit_values(BARE[2], 5, (4, 0, 1, 1)), [[4, 0, 1, 1]])

    def test_lists_are_new(self):
        inputs = [2, 3]
        found = circuit_values(STEPS, 7, inputs)
        self.assertIsNot(found[2], inputs)
        found[2][0] = found[1][0] = found[0][0] = 0
        self.same(inputs, [2, 3])
        self.same(circuit_values(STEPS, 7, inputs), [[6], [4, 5], [2, 3]])

    def test_wrong_inputs(self):
        for call in (lambda prime, inputs: circuit_values(ONE, prime, inputs),
                     lambda prime, inputs: layer_form(ONE, prime, inputs, 9, ["wrong"])):
            self.no_prime(lambda prime: call(prime, ["wrong"] * 9))
            for inputs in ([], [1], [1] * 3, ["wrong"], ["wrong"] * 9):
                self.error(WrongPlaces, call, 5, inputs)
        self.no_number(5, lambda number: circuit_values(ONE, 5, [1, number]))
        self.same(self.error(NotInField, circuit_values, ONE, 5, [9, 8]).value, 9)
        self.same(self.error(NotInField, layer_form, ONE, 5, [9, 8], 9, "wrong").value, 9)


class Wirings(Case):
    def test_wirings(self):
        for made in CIRCUITS:
            bits = layer_bits(made)
            for prime in (2, 3, 101):
                for layer, seed in itertools.product(range(made.depth), range(3)):
                    z = some_numbers(prime, bits[layer], seed)
                    x = some_numbers(prime, bits[layer + 1], seed + 1)
                    y = some_numbers(prime, bits[layer + 1], 3 * seed + 5)
                    for kind in (ADD, MUL):
                        found = self.keeps(lambda a, b, c: wiring_at(made, prime, layer, kind, a, b, c), z, x, y)
                        self.same(found, plain_wiring(made, prime, layer, kind, z, x, y))

    def test_wirings_at_corners_find_the_gates(self):
        for z, x, y in itertools.product(itertools.product((0, 1), repeat=2), repeat=3):
            indexes = [2 * corner[0] + corner[1] for corner in (z, x, y)]
            for kind in (ADD, MUL):
                expected = int(QUAD.layers[0][indexes[0]] == (kind, indexes[1], indexes[2]))
                self.same(wiring_at(circuit=QUAD, prime=5, layer=0, kind=kind, z=z, x=x, y=y), expected)

    def test_layers_without_bits(self):
        for made, sums, products in ((EVEN, 1, 0), (SQUARE, 0, 1)):
            self.same(wiring_at(made, 5, 0, ADD, [], [], []), sums)
            self.same(wiring_at(made, 5, 0, MUL, (), (), ()), products)
        self.same(wiring_at(SPREAD, 5, 0, ADD, [2], [], []), 4)
        self.same(wiring_at(SPREAD, 5, 0, MUL, [2], [], []), 2)

    def test_wrong_arguments(self):
        self.no_prime(lambda prime: wiring_at(ONE, prime, 9, "wrong", "wrong", "wrong", "wrong"))
        for made in CIRCUITS:
            for layer in (-1, made.depth) + HUGE + OTHER_KINDS:
                self.error(OutOfRange, wiring_at, made, 5, layer, "wrong", "wrong", "wrong", "wrong")
        for kind in WRONG_KINDS:
            self.error(OutOfRange, wiring_at, PAIR, 5, 0, kind, [], [9], [9])
        for row in ([], [1, 1], [9, 9], [9] * 6):
            self.error(WrongPlaces, wiring_at, PAIR, 5, 0, ADD, row, [9], [9])
            self.error(WrongPlaces, wiring_at, PAIR, 5, 0, ADD, [0], row, [9])
            self.error(WrongPlaces, wiring_at, PAIR, 5, 0, ADD, [0], [0], row)
        self.no_number(5, lambda number: wiring_at(PAIR, 5, 0, MUL, [number], [0], [0]))
        self.no_number(5, lambda number: wiring_at(PAIR, 5, 0, MUL, [0], [number], [0]))
        self.no_number(5, lambda number: wiring_at(PAIR, 5, 0, MUL, [0], [0], [number]))
        self.same(self.error(NotInField, wiring_at, PAIR, 5, 0, ADD, [9], [], []).value, 9)
        self.same(self.error(NotInField, wiring_at, PAIR, 5, 0, ADD, [1], [8], []).value, 8)
        self.error(WrongPlaces, wiring_at, QUAD, 5, 0, ADD, [1], [0, 0], [0, 0])
        self.error(WrongPlaces, wiring_at, SMALL, 5, 0, ADD, [], [0], [0, 0])


class LayerForms(Case):
    def test_layer_form(self):
        for made in CIRCUITS:
            bits = layer_bits(made)
            for prime, seed in ((2, 1), (3, 1), (5, 2), (101, 7)):
                inputs = some_numbers(prime, made.width, seed)
                for layer in range(made.depth):
                    z = some_numbers(prime, bits[layer], seed + 2)
                    form = self.keeps(lambda row, point: layer_form(made, prime, row, layer, point), inputs, z)
                    self.same((form.prime, form.places), (prime, 2 * bits[layer + 1]))
                    self.assertEqual(form, formal_layer_form(made, prime, inputs, layer, z))
                    self.assertLessEqual(max(form.degrees, default=0), 2)
                    for point in [some_numbers(prime, form.places, at) for at in range(8)]:
                        self.same(form.at(point), plain_layer_value(made, prime, inputs, layer, z, point))

    def test_corner_sum_is_the_value_of_the_filling(self):
        for made in CIRCUITS:
            for prime in (2, 5):
                inputs = some_numbers(prime, made.width, 3)
                tables = plain_values(made, prime, inputs)
                for layer in range(made.depth):
                    for z in all_points(prime, layer_bits(made)[layer])[:9]:
                        form = layer_form(circuit=made, prime=prime, inputs=inputs, layer=layer, z=z)
                        self.same(corner_sum(form), plain_filling(prime, tables[layer], z))
                        self.same(corner_sum(form), filling(prime, tables[layer]).at(z))

    def test_layers_without_bits_below(self):
        self.assertEqual(layer_form(EVEN, 5, [4], 0, []), Form(5, 0, [((), 3)]))
        self.assertEqual(layer_form(SQUARE, 5, [4], 0, ()), Form(5, 0, [((), 1)]))
        self.assertEqual(layer_form(SPREAD, 5, [3], 0, [2]), Form(5, 0, [((), (-6 + 2 * 9) % 5)]))

    def test_wrong_arguments(self):
        for made in CIRCUITS:
            for layer in (-1, made.depth) + HUGE + OTHER_KINDS:
                self.error(OutOfRange, layer_form, made, 5, [1] * made.width, layer, "wrong")
        for z in ([], [1, 1], ["wrong"] * 6):
            self.error(WrongPlaces, layer_form, PAIR, 5, [1, 1], 0, z)
        self.error(WrongPlaces, layer_form, ONE, 5, [1, 1], 0, [0])
        self.no_number(5, lambda number: layer_form(QUAD, 5, [1] * 4, 0, [0, number]))
