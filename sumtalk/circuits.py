"""Circuits: layers of gates above a row of inputs, their values, wirings and layer forms."""

from sumtalk.checks import check_at_most, check_length, check_numbers, check_range, is_whole
from sumtalk.errors import BadText, NotCircuit, OutOfRange, TalkError
from sumtalk.fields import check_prime
from sumtalk.fillings import TABLE_LENGTHS, corner_weights, filling, filling_at
from sumtalk.forms import Form
from sumtalk.words import check_text, check_written, read_number, split_words

MAX_LAYERS = 4
WIDTHS = (1, 2, 4)
ADD = "add"
MUL = "mul"
KINDS = ("add", "mul")
GATE_WORDS = 3
INPUTS_WORD = "inputs"


def is_width(value):
    """True for a number of gates or inputs that a layer may have."""
    return is_whole(value) and value in WIDTHS


def is_kind(value):
    """True for a kind of gates."""
    return isinstance(value, str) and value in KINDS


def is_gate(gate, below):
    """True for a gate above a layer of so many gates or inputs."""
    if len(gate) != GATE_WORDS:
        return False
    kind, left, right = gate
    return is_kind(kind) and all([is_whole(at) and 0 <= at < below for at in (left, right)])


class Circuit:
    """Up to four layers of gates, layer 0 the outputs, and below them the inputs."""

    def __init__(self, layers, width):
        check_at_most(layers, MAX_LAYERS)
        widths = [len(layer) for layer in layers] + [width]
        if not all([is_width(one) for one in widths]):
            raise NotCircuit()
        for layer, below in zip(layers, widths[1:]):
            if not all([is_gate(gate, below) for gate in layer]):
                raise NotCircuit()
        self.layers = tuple([tuple([tuple(gate) for gate in layer]) for layer in layers])
        self.width = width
        self.widths = tuple(widths)

    def __eq__(self, other):
        return isinstance(other, Circuit) and self.layers == other.layers and self.width == other.width

    @property
    def depth(self):
        """The number of layers of gates."""
        return len(self.layers)

    def bits(self, layer):
        """The number of places of a layer's filling."""
        check_range(layer, 0, self.depth)
        return TABLE_LENGTHS.index(self.widths[layer])

    def text(self):
        """The written form."""
        lines = [" ".join([f"{kind} {left} {right}" for kind, left, right in layer]) for layer in self.layers]
        return "\n".join(lines + [f"{INPUTS_WORD} {self.width}"])


def read_layer(line):
    """The list of the gates that a line tells."""
    words = split_words(line)
    if len(words) % GATE_WORDS != 0:
        raise BadText()
    return [(words[at], read_number(words[at + 1]), read_number(words[at + 2]))
            for at in range(0, len(words), GATE_WORDS)]


def read_circuit(text):
    """The circuit whose written form the text is."""
    check_text(text)
    *lines, last = text.split("\n")
    words = split_words(last)
    if len(words) != 2:
        raise BadText()
    try:
        circuit = Circuit([read_layer(line) for line in lines], read_number(words[1]))
    except TalkError:
        raise BadText() from None
    check_written(text, circuit.text())
    return circuit


def gate_value(prime, gate, below):
    """The value of a gate above a row of values."""
    kind, left, right = gate
    if kind == ADD:
        return (below[left] + below[right]) % prime
    return below[left] * below[right] % prime


def check_inputs(circuit, prime, inputs):
    """Check a row with a number for each of the circuit's inputs."""
    check_length(inputs, circuit.width)
    check_numbers(prime, inputs)


def circuit_values(circuit, prime, inputs):
    """The list of the lists of the values of all layers, from layer 0 to the inputs."""
    check_prime(prime)
    check_inputs(circuit, prime, inputs)
    tables = [list(inputs)]
    for layer in circuit.layers[::-1]:
        below = tables[-1]
        tables.append([gate_value(prime, gate, below) for gate in layer])
    return tables[::-1]


def wiring_table(circuit, prime, layer, kind, z):
    """The wiring of a kind at z as a table over the corners of x and then y."""
    below = circuit.widths[layer + 1]
    table = [0] * (below * below)
    for gate, weight in zip(circuit.layers[layer], corner_weights(prime, z)):
        own_kind, left, right = gate
        if own_kind == kind:
            at = left * below + right
            table[at] = (table[at] + weight) % prime
    return table


def moved(form, ahead, behind):
    """The form with so many places more ahead of its own, and behind them."""
    pairs = [((0,) * ahead + exponents + (0,) * behind, number) for exponents, number in form.terms]
    return Form(form.prime, ahead + form.places + behind, pairs)


def form_over(circuit, prime, tables, layer, z):
    """The layer form over the values of all layers; nothing is checked."""
    bits = circuit.bits(layer + 1)
    values = filling(prime, tables[layer + 1])
    at_x = moved(values, 0, bits)
    at_y = moved(values, bits, 0)
    adds = filling(prime, wiring_table(circuit, prime, layer, ADD, z))
    muls = filling(prime, wiring_table(circuit, prime, layer, MUL, z))
    return adds * (at_x + at_y) + muls * at_x * at_y


def check_layer(circuit, layer):
    """Check the number of a layer of gates."""
    check_range(layer, 0, circuit.depth - 1)


def check_layer_point(circuit, prime, layer, point):
    """Check a point with a number for each bit of a layer."""
    check_length(point, circuit.bits(layer))
    check_numbers(prime, point)


def layer_form(circuit, prime, inputs, layer, z):
    """The form in x and then y whose corner sum is the value at z of the layer's filling."""
    tables = circuit_values(circuit, prime, inputs)
    check_layer(circuit, layer)
    check_layer_point(circuit, prime, layer, z)
    return form_over(circuit, prime, tables, layer, z)


def wiring_at(circuit, prime, layer, kind, z, x, y):
    """The wiring of a kind of gates at points z, x and y."""
    check_prime(prime)
    check_layer(circuit, layer)
    if not is_kind(kind):
        raise OutOfRange()
    check_layer_point(circuit, prime, layer, z)
    check_layer_point(circuit, prime, layer + 1, x)
    check_layer_point(circuit, prime, layer + 1, y)
    return filling_at(prime, wiring_table(circuit, prime, layer, kind, z), (*x, *y))
