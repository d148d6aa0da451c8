"""What the tests of circuits and of layer talks share: circuits, and plain computations over them."""

import itertools

from sumtalk.circuits import Circuit

ADD, MUL = "add", "mul"


def adds(*pairs):
    return [(ADD, left, right) for left, right in pairs]


def muls(*pairs):
    return [(MUL, left, right) for left, right in pairs]


ONE = Circuit([muls((0, 1))], 2)
EVEN = Circuit([adds((0, 0))], 1)
SQUARE = Circuit([muls((0, 0))], 1)
SPREAD = Circuit([adds((0, 0)) + muls((0, 0))], 1)
PAIR = Circuit([adds((0, 1)) + muls((1, 1))], 2)
QUAD = Circuit([adds((3, 0), (1, 1)) + muls((2, 3), (0, 0))], 4)
SMALL = Circuit([muls((2, 2))], 4)
STEPS = Circuit([muls((0, 1)), adds((0, 0), (0, 1))], 2)
NARROW = Circuit([adds((0, 0)) + muls((0, 0)), muls((0, 1)), adds((0, 1), (1, 1))], 2)
TALL = Circuit([muls((0, 3)) + adds((1, 1)), adds((0, 3), (2, 2), (1, 0)) + muls((1, 2)),
                adds((0, 1), (1, 1)) + muls((1, 0), (0, 0)), muls((3, 2)) + adds((0, 1))], 4)
DEEP = Circuit([adds((0, 0)), muls((0, 0)), adds((0, 0)), muls((0, 0))], 1)
CHAIN = Circuit([adds((0, 1)), muls((0, 0)) + adds((0, 0)), muls((0, 1)), adds((0, 0), (1, 0))], 2)
BARE = [Circuit([], width) for width in (1, 2, 4)]
CIRCUITS = BARE + [ONE, EVEN, SQUARE, SPREAD, PAIR, QUAD, SMALL, STEPS, NARROW, TALL, DEEP, CHAIN]


def plain_bits(many):
    return {1: 0, 2: 1, 4: 2}[many]


def layer_bits(circuit):
    """The bits of all layers, the inputs last."""
    return [plain_bits(many) for many in [len(layer) for layer in circuit.layers] + [circuit.width]]


def plain_schedule(circuit):
    bits = layer_bits(circuit)
    schedule = []
    for layer in range(len(circuit.layers)):
        schedule += [(layer, "round", 2)] * (2 * bits[layer + 1]) + [(layer, "line", bits[layer + 1])]
    return schedule


def plain_total(circuit):
    return layer_bits(circuit)[0] + len(plain_schedule(circuit))


def plain_weight(prime, corner, point):
    weight = 1
    for bit, number in zip(corner, point):
        weight = weight * (number if bit else 1 - number) % prime
    return weight


def corner_of(places, index):
    return list(itertools.product((0, 1), repeat=places))[index]


def plain_filling(prime, table, point):
    """The value at a point of the filling of a table."""
    total = 0
    for corner, value in zip(itertools.product((0, 1), repeat=len(point)), table):
        total += value * plain_weight(prime, corner, point)
    return total % prime


def plain_values(circuit, prime, inputs):
    """The values of all layers, layer 0 first."""
    tables = [list(inputs)]
    for layer in reversed(circuit.layers):
        below = tables[0]
        tables.insert(0, [(below[a] + below[b] if kind == ADD else below[a] * below[b]) % prime
                          for kind, a, b in layer])
    return tables


def plain_wiring(circuit, prime, layer, kind, z, x, y):
    total = 0
    for index, (own, left, right) in enumerate(circuit.layers[layer]):
        if own == kind:
            total += (plain_weight(prime, corner_of(len(z), index), z)
                      * plain_weight(prime, corner_of(len(x), left), x)
                      * plain_weight(prime, corner_of(len(y), right), y))
    return total % prime


def plain_layer_value(circuit, prime, inputs, layer, z, point):
    """The value of the layer form at a point, x and then y."""
    half = len(point) // 2
    x, y = point[:half], point[half:]
    below = plain_values(circuit, prime, inputs)[layer + 1]
    at_x, at_y = plain_filling(prime, below, x), plain_filling(prime, below, y)
    return (plain_wiring(circuit, prime, layer, ADD, z, x, y) * (at_x + at_y)
            + plain_wiring(circuit, prime, layer, MUL, z, x, y) * at_x * at_y) % prime


def plain_at(prime, coefficients, number):
    return sum(coefficient * number ** power for power, coefficient in enumerate(coefficients)) % prime


def plain_line(prime, a, b, number):
    """The point at a number of the line through two points."""
    return tuple((left + (right - left) * number) % prime for left, right in zip(a, b))


def some_numbers(prime, many, seed):
    """Some numbers of the field, others for other seeds."""
    return [(seed * seed + 3 * seed * at + at * at + seed) % prime for at in range(many)]


def some_coins(circuit, prime, seed):
    """A flat row of coins of a whole talk."""
    return some_numbers(prime, plain_total(circuit), seed)


def plain_judge(circuit, journal, inputs):
    """The verdict of a layer journal, step by step as the document tells."""
    prime, bits = journal.prime, layer_bits(circuit)
    schedule = plain_schedule(circuit)
    if len(journal.outputs) != 2 ** bits[0]:
        return (0, "outputs")
    if len(journal.start) != bits[0]:
        return (0, "start")
    z, coins = journal.start, ()
    owed = plain_filling(prime, journal.outputs, z)
    for k, (poly, coin) in enumerate(journal.rounds, 1):
        if k > len(schedule):
            return (len(schedule) + 1, "long")
        layer, what, degree = schedule[k - 1]
        if len(poly.coefficients) > degree + 1:
            return (k, "degree")
        low, high = plain_at(prime, poly.coefficients, 0), plain_at(prime, poly.coefficients, 1)
        if what == "round":
            if (low + high) % prime != owed:
                return (k, "sum")
            coins += (coin,)
        else:
            x, y = coins[:bits[layer + 1]], coins[bits[layer + 1]:]
            value = (plain_wiring(circuit, prime, layer, ADD, z, x, y) * (low + high)
                     + plain_wiring(circuit, prime, layer, MUL, z, x, y) * low * high)
            if value % prime != owed:
                return (k, "line")
            z, coins = plain_line(prime, x, y, coin), ()
        owed = plain_at(prime, poly.coefficients, coin)
    if len(journal.rounds) < len(schedule):
        return (len(journal.rounds) + 1, "short")
    if owed != plain_filling(prime, inputs, z):
        return (len(schedule) + 1, "look")
    return (None, "let by")
