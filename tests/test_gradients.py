"""Promises g1 to g4: tangents, gradients, and the gradients of weights."""

import random
import unittest
from fractions import Fraction

from tests.helper import BRANCHED_KINDS, PLAIN_KINDS, gradient_numbers, some_inputs, some_layer, some_net
from tests.helper import some_numbers, weights, with_weights
from wholenet.gradients import aligned, back, net_back, net_gradients, net_tangent, tangent, weight_gradient
from wholenet.nets import check_net, gives, layer_signals, length_of, signals
from wholenet.numbers import MOST_SIGNAL, MOST_WEIGHT, UNIT

TOP = MOST_SIGNAL


class GradientCase(unittest.TestCase):
    def both(self, layer, x, told, power=1):
        """Tangents and gradients by the matrix of the layer at x: a row of numbers for each signal.

        The numbers stand for themselves divided by UNIT to the power.
        """
        check_net(("net", len(x), (layer,)))
        for p in (0, 3):
            for d in self.rows(len(x)):
                want = tuple(sum(a * b for a, b in zip(row, d)) for row in told)
                self.same(tangent(layer, x, (p, d)), (p + power, want))
                self.same(net_tangent(("net", len(x), (layer,)), x, (p, d)), (p + power, want))
            for g in self.rows(len(told)):
                want = tuple(sum(row[i] * b for row, b in zip(told, g)) for i in range(len(x)))
                self.same(back(layer, x, (p, g)), (p + power, want))
                self.same(net_back(("net", len(x), (layer,)), x, (p, g)), (p + power, want))

    def rows(self, many):
        yield tuple(range(2, 2 + many))
        yield tuple((-7) ** i for i in range(many))
        for at in range(many):
            yield (0,) * at + (-5,) + (0,) * (many - at - 1)

    def same(self, given, told):
        self.assertEqual(given, told)
        self.assertIs(type(given), tuple)
        self.assertIs(type(given[1]), tuple)


class Dense(GradientCase):
    LAYER = ("dense", ((4096, 8192), (0, -1)), (0, 0))

    def test_the_examples(self):
        self.assertEqual(tangent(self.LAYER, (1, 2), (0, (1, 1))), (1, (12288, -1)))
        self.assertEqual(back(self.LAYER, (1, 2), (0, (1, 0))), (1, (4096, 8192)))
        self.assertEqual(weight_gradient(self.LAYER, (1, 2), (0, (1, 0))), ("dense", 0, ((1, 2), (0, 0)), (1, 0)))

    def test_ordinary(self):
        self.both(self.LAYER, (1, 2), self.LAYER[1])
        self.both(("dense", ((3, -4, 5),), (7,)), (100, 0, -100), ((3, -4, 5),))
        self.both(("dense", ((3,), (-4,), (5,)), (7, 8, 9)), (100,), ((3,), (-4,), (5,)))

    def test_nothing_is_rounded(self):
        layer = ("dense", ((1,),), (0,))
        self.assertEqual(tangent(layer, (0,), (5, (1,))), (6, (1,)))
        self.assertEqual(back(layer, (0,), (5, (1,))), (6, (1,)))

    def test_weights(self):
        layer = ("dense", ((3, -4, 5), (1, 1, 1)), (7, 8))
        told = ("dense", 2, ((-600, 700, 0), (-54, 63, 0)), (100, 9))
        self.assertEqual(weight_gradient(layer, (-6, 7, 0), (2, (100, 9))), told)

    def test_weights_with_the_power_of_the_gradient(self):
        for power in (0, 1, 7):
            told = ("dense", power, ((0, 0), (5, 10)), (0, 5))
            self.assertEqual(weight_gradient(self.LAYER, (1, 2), (power, (0, 5))), told)

    def test_a_bias_that_just_leaves_it_within(self):
        for sign in (1, -1):
            x = (sign * TOP,)
            for bias, open_ in ((0, True), (-sign, True), (sign, False), (sign * MOST_WEIGHT, False)):
                layer = ("dense", ((UNIT,), (3,)), (bias, 0))
                self.both(layer, x, ((UNIT if open_ else 0,), (3,)))
                told = ("dense", 0, ((2 * x[0] if open_ else 0,), (5 * x[0],)), (2 if open_ else 0, 5))
                self.assertEqual(weight_gradient(layer, x, (0, (2, 5))), told)

    def test_rounding_decides_at_the_clamp(self):
        # The exact sum is TOP + 1/2, which is rounded to TOP, an even number.
        layer = ("dense", ((UNIT, 2048),), (0,))
        self.both(layer, (TOP, 1), ((UNIT, 2048),))
        self.both(layer, (TOP, 2), ((0, 0),))
        self.both(layer, (-TOP, -1), ((UNIT, 2048),))
        self.both(layer, (-TOP, -2), ((0, 0),))

    def test_clamped_ahead_of_the_bias_means_nothing(self):
        layer = ("dense", ((2 * UNIT,),), (-MOST_WEIGHT,))
        x = (TOP // 2 + MOST_WEIGHT // 2,)
        self.both(layer, x, ((2 * UNIT,),))
        self.both(layer, (x[0] + 1,), ((0,),))


class Conv(GradientCase):
    def test_stride_one(self):
        layer = ("conv", ((3, -4),), (9,), 1)
        told = ((3, -4, 0, 0), (0, 3, -4, 0), (0, 0, 3, -4))
        self.both(layer, (5, 6, 7, 8), told)
        told = ("conv", 4, ((10 * 5 + 20 * 6 + 30 * 7, 10 * 6 + 20 * 7 + 30 * 8),), (60,))
        self.assertEqual(weight_gradient(layer, (5, 6, 7, 8), (4, (10, 20, 30))), told)

    def test_strides_and_kernels(self):
        layer = ("conv", ((1, 2), (-3, 4)), (0, 0), 2)
        told = ((1, 2, 0, 0, 0), (0, 0, 1, 2, 0), (-3, 4, 0, 0, 0), (0, 0, -3, 4, 0))
        self.both(layer, (5, 6, 7, 8, 9), told)
        told = ("conv", 0, ((1 * 5 + 10 * 7, 1 * 6 + 10 * 8), (100 * 5 + 1000 * 7, 100 * 6 + 1000 * 8)), (11, 1100))
        self.assertEqual(weight_gradient(layer, (5, 6, 7, 8, 9), (0, (1, 10, 100, 1000))), told)

    def test_a_gap_between_the_places(self):
        layer = ("conv", ((7,),), (0,), 3)
        self.both(layer, (1, 2, 3, 4, 5), ((7, 0, 0, 0, 0), (0, 0, 0, 7, 0)))
        self.assertEqual(weight_gradient(layer, (1, 2, 3, 4, 5), (1, (2, 3))), ("conv", 1, ((14,),), (5,)))

    def test_clamped_at_some_places(self):
        layer = ("conv", ((UNIT,), (-UNIT,)), (1, 0), 1)
        x = (TOP - 1, TOP, -TOP)
        self.both(layer, x, ((UNIT, 0, 0), (0, 0, 0), (0, 0, UNIT), (-UNIT, 0, 0), (0, -UNIT, 0), (0, 0, -UNIT)))
        told = ("conv", 0, ((2 * (TOP - 1) - 5 * TOP,), (7 * (TOP - 1) + 11 * TOP - 13 * TOP,)), (7, 31))
        self.assertEqual(weight_gradient(layer, x, (0, (2, 3, 5, 7, 11, 13))), told)
        self.both(("conv", ((2 * UNIT,),), (0,), 1), (TOP // 2, TOP // 2 + 1), ((2 * UNIT, 0), (0, 0)))


class Others(GradientCase):
    def test_relu(self):
        self.both(("relu",), (-1, 0, 1, -TOP, TOP), (
            (0,) * 5, (0,) * 5, (0, 0, 1, 0, 0), (0,) * 5, (0, 0, 0, 0, 1)), power=0)

    def test_clamp(self):
        told = ((0,) * 6, (0, 1, 0, 0, 0, 0), (0, 0, 1, 0, 0, 0), (0, 0, 0, 1, 0, 0), (0, 0, 0, 0, 1, 0), (0,) * 6)
        self.both(("clamp", -3, 4), (-4, -3, -2, 3, 4, 5), told, power=0)

    def test_clamp_to_one_number(self):
        self.both(("clamp", 2, 2), (1, 2, 3), ((0, 0, 0), (0, 1, 0), (0, 0, 0)), power=0)

    def test_max(self):
        self.both(("max", 2), (1, 2, 4, 3), ((0, 1, 0, 0), (0, 0, 1, 0)), power=0)
        self.both(("max", 1), (1, 2), ((1, 0), (0, 1)), power=0)

    def test_max_of_equal_signals(self):
        self.both(("max", 3), (7, 7, 7, 1, 5, 5), ((1, 0, 0, 0, 0, 0), (0, 0, 0, 0, 1, 0)), power=0)
        self.both(("max", 4), (-3, -2, -3, -2), ((0, 1, 0, 0),), power=0)

    def test_mean(self):
        half = UNIT // 2
        self.both(("mean", 2), (1, 2, 4, -TOP), ((half, half, 0, 0), (0, 0, half, half)))
        self.both(("mean", 1), (1, 2), ((UNIT, 0), (0, UNIT)))
        for size in (4, 8, 16):
            self.both(("mean", size), (3,) * size, ((UNIT // size,) * size,))

    def test_means_of_many(self):
        for size in (32, 64):
            x = (1,) * 64
            want = tuple([sum(range(at, at + size)) * (UNIT // size) for at in range(0, 64, size)])
            self.assertEqual(tangent(("mean", size), x, (2, tuple(range(64)))), (3, want))
            g = tuple(range(5, 5 + 64 // size))
            want = tuple([number * (UNIT // size) for number in g for _ in range(size)])
            self.assertEqual(back(("mean", size), x, (2, g)), (3, want))

    def test_they_have_no_weights(self):
        for layer in (("relu",), ("clamp", -3, 4), ("max", 2), ("mean", 2)):
            g = (5,) * gives(layer, 2)
            self.assertEqual(weight_gradient(layer, (1, 2), (3, g)), ())


class Branches(GradientCase):
    DOUBLE = ("dense", ((2 * UNIT,),), (0,))
    HALF = ("dense", ((2048,),), (0,))

    def test_empty_branches(self):
        self.both(("sum", (), ()), (3, 4), ((2, 0), (0, 2)), power=0)
        self.both(("fork", (), ()), (3, 4), ((1, 0), (0, 1), (1, 0), (0, 1)), power=0)
        self.assertEqual(weight_gradient(("sum", (), ()), (3,), (0, (1,))), ("sum", (), ()))
        self.assertEqual(weight_gradient(("fork", (), ()), (3,), (0, (1, 2))), ("fork", (), ()))

    def test_sum_of_one_power(self):
        self.both(("sum", (self.DOUBLE,), (self.HALF,)), (10,), ((2 * UNIT + 2048,),))
        self.both(("sum", (("relu",),), (("clamp", 0, 5),)), (10,), ((1,),), power=0)

    def test_sum_of_different_powers(self):
        for layer in (("sum", (self.DOUBLE, self.HALF), ()), ("sum", (), (self.DOUBLE, self.HALF))):
            self.both(layer, (10,), ((2 * UNIT * 2048 + UNIT * UNIT,),), power=2)
        layer = ("sum", (("mean", 1),), (self.DOUBLE, self.DOUBLE, self.DOUBLE))
        self.both(layer, (10,), ((UNIT ** 3 + 8 * UNIT ** 3,),), power=3)

    def test_fork_of_different_powers(self):
        self.both(("fork", (self.DOUBLE,), ()), (10,), ((2 * UNIT,), (UNIT,)))
        self.both(("fork", (), (self.DOUBLE,)), (10,), ((UNIT,), (2 * UNIT,)))
        self.both(("fork", (self.DOUBLE, self.HALF), (("dense", ((1,), (3,)), (0, 0)),)), (10,), (
            (UNIT * UNIT,), (UNIT,), (3 * UNIT,)), power=2)

    def test_sum_with_a_clamp(self):
        for sign in (1, -1):
            self.both(("sum", (), ()), (sign * TOP // 2, sign * (TOP // 2 + 1)), ((2, 0), (0, 0)), power=0)
            layer = ("sum", (), (("dense", ((0,),), (sign * 5,)),))
            self.both(layer, (sign * (TOP - 5),), ((UNIT,),))
            self.both(layer, (sign * (TOP - 4),), ((0,),))

    def test_fork_without_a_clamp(self):
        self.both(("fork", (), ()), (TOP,), ((1,), (1,)), power=0)

    def test_weights_of_a_sum(self):
        layer = ("sum", (self.DOUBLE, self.HALF), (("relu",), self.HALF))
        told = ("sum", (("dense", 4, ((7 * 2048 * 10,),), (7 * 2048,)), ("dense", 3, ((7 * 20,),), (7,))),
                ((), ("dense", 3, ((7 * 10,),), (7,))))
        self.assertEqual(weight_gradient(layer, (10,), (3, (7,))), told)

    def test_weights_of_a_clamped_sum(self):
        layer = ("sum", (), (("dense", ((0, 0), (0, 0)), (5, 5)),))
        x = (TOP - 5, TOP - 4)
        told = ("sum", (), (("dense", 0, ((7 * x[0], 7 * x[1]), (0, 0)), (7, 0)),))
        self.assertEqual(weight_gradient(layer, x, (0, (7, 8))), told)

    def test_weights_of_a_fork(self):
        layer = ("fork", (("dense", ((1,), (2,)), (0, 0)),), (("conv", ((3,),), (0,), 1), ("max", 1)))
        told = ("fork", (("dense", 1, ((50,), (60,)), (5, 6)),), (("conv", 1, ((70,),), (7,)), ()))
        self.assertEqual(weight_gradient(layer, (10,), (1, (5, 6, 7))), told)

    def test_a_clamp_within_a_branch(self):
        layer = ("fork", (("dense", ((MOST_WEIGHT,), (1,)), (0, 0)),), ())
        self.both(layer, (TOP,), ((0,), (1,), (UNIT,)))
        told = ("fork", (("dense", 0, ((0,), (6 * TOP,)), (0, 6)),), ())
        self.assertEqual(weight_gradient(layer, (TOP,), (0, (5, 6, 7))), told)


class Aligned(unittest.TestCase):
    def test_to_the_greater_power(self):
        self.assertEqual(aligned((0, (1, -2)), (0, (3,))), ((0, (1, -2)), (0, (3,))))
        self.assertEqual(aligned((1, (1, -2)), (0, (3, 4))), ((1, (1, -2)), (1, (3 * UNIT, 4 * UNIT))))
        self.assertEqual(aligned((2, (1, -2)), (5, (3, 4))), ((5, (UNIT ** 3, -2 * UNIT ** 3)), (5, (3, 4))))
        self.assertEqual(aligned((7, ()), (3, (1,))), ((7, ()), (7, (UNIT ** 4,))))


class Nets(unittest.TestCase):
    def test_without_layers(self):
        net = ("net", 2, ())
        self.assertEqual(net_tangent(net, (1, 2), (3, (4, 5))), (3, (4, 5)))
        self.assertEqual(net_back(net, (1, 2), (3, (4, 5))), (3, (4, 5)))
        self.assertEqual(net_gradients(net, (1, 2), (3, (4, 5))), ())

    def test_at_their_own_signals(self):
        # The second layer has 0 ahead of the relu, the input is not 0.
        net = ("net", 2, (("dense", ((UNIT, -UNIT), (UNIT, 0)), (0, 0)), ("relu",), ("dense", ((2, 3),), (1,))))
        self.assertEqual(net_tangent(net, (5, 5), (0, (1, 0))), (2, (3 * UNIT,)))
        self.assertEqual(net_back(net, (5, 5), (0, (7,))), (2, (21 * UNIT, 0)))
        self.assertEqual(net_gradients(net, (5, 4), (0, (7,))), (
            ("dense", 1, ((70, 56), (105, 84)), (14, 21)), (), ("dense", 0, ((7, 35),), (7,))))
        self.assertEqual(net_gradients(net, (5, 5), (0, (7,))), (
            ("dense", 1, ((0, 0), (105, 105)), (0, 21)), (), ("dense", 0, ((0, 35),), (7,))))


def matrix(layer, x):
    """The derivatives of the signals of a layer by its inputs, as a list of rows, and the power that they bring."""
    kind = layer[0]
    unit = [[Fraction(i == j) for i in range(len(x))] for j in range(len(x))]
    if kind in ("dense", "conv"):
        size, stride = len(layer[1][0]), layer[3] if kind == "conv" else len(x)
        rows = []
        for row, bias in zip(layer[1], layer[2]):
            for place in range(0, len(x) - size + 1, stride):
                weights = [0] * place + list(row) + [0] * (len(x) - place - size)
                total = round(Fraction(sum(a * b for a, b in zip(weights, x)), UNIT)) + bias
                rows.append([Fraction(weight, UNIT) * (abs(total) <= TOP) for weight in weights])
        return rows, 1
    if kind == "relu":
        return [[number * (signal > 0) for number in row] for signal, row in zip(x, unit)], 0
    if kind == "clamp":
        return [[number * (layer[1] <= signal <= layer[2]) for number in row] for signal, row in zip(x, unit)], 0
    if kind == "max":
        starts = range(0, len(x), layer[1])
        return [unit[max(range(at, at + layer[1]), key=lambda i: (x[i], -i))] for at in starts], 0
    if kind == "mean":
        starts = range(0, len(x), layer[1])
        return [[Fraction(at <= i < at + layer[1], layer[1]) for i in range(len(x))] for at in starts], 1
    first, power = product(layer[1], x)
    second, other = product(layer[2], x)
    if kind == "fork":
        return first + second, max(power, other)
    ones, others = last(layer[1], x), last(layer[2], x)
    return [[(a + b) * (abs(one + more) <= TOP) for a, b in zip(row, two)]
            for row, two, one, more in zip(first, second, ones, others)], max(power, other)


def last(layers, x):
    return signals(("net", len(x), layers), x)[-1]


def product(layers, x):
    """The same for several layers, one behind the other."""
    found, powers = [[Fraction(i == j) for i in range(len(x))] for j in range(len(x))], 0
    for layer in layers:
        rows, power = matrix(layer, x)
        found = [[sum(a * b[i] for a, b in zip(row, found)) for i in range(len(found[0]))] for row in rows]
        powers += power
        x = layer_signals(layer, x)
    return found, powers


class Random(unittest.TestCase):
    def check(self, net, x, rng):
        rows, power = product(net[2], x)
        p = rng.randint(0, 2)
        d, g = some_numbers(rng, len(x), 9999), some_numbers(rng, len(rows), 9999)
        want = [sum(a * b for a, b in zip(row, d)) * UNIT ** power for row in rows]
        self.assertEqual(net_tangent(net, x, (p, d)), (p + power, tuple(want)))
        want = [sum(row[i] * b for row, b in zip(rows, g)) * UNIT ** power for i in range(len(x))]
        self.assertEqual(net_back(net, x, (p, g)), (p + power, tuple(want)))

    def test_single_layers(self):
        rng = random.Random(3)
        for kind in PLAIN_KINDS + BRANCHED_KINDS:
            for _ in range(60):
                n = rng.randint(1, 8)
                net = ("net", n, (some_layer(rng, n, kind, rng.choice((9, 2 * UNIT, MOST_WEIGHT))),))
                self.check(net, some_inputs(rng, net, rng.choice((9, 2 * UNIT, TOP))), rng)

    def test_nets(self):
        rng = random.Random(4)
        for _ in range(300):
            net = some_net(rng)
            self.check(net, some_inputs(rng, net, rng.choice((9, 2 * UNIT, TOP))), rng)

    def test_each_weight_pushed_a_little(self):
        """The gradient of a weight is what a small push changes, in nets in which nothing is rounded."""
        rng = random.Random(5)
        pushes = 0
        for _ in range(120):
            layers, x = unrounded(rng, some_net(rng))
            net = ("net", len(x), layers)
            check_net(net)
            self.assertEqual(exact(layers, x), signals(net, x)[-1])
            g = some_numbers(rng, length_of(net), 99)
            told = gradient_numbers(net_gradients(net, x, (0, g)))
            self.assertEqual(len(told), len(weights(layers)))
            for at, (number, power) in enumerate(told):
                up, down = [pushed(layers, x, g, at, push) for push in (EDGE, -EDGE)]
                # Where they differ there is an edge, of a relu for example, at which no push tells the gradient.
                if up == down:
                    pushes += 1
                    self.assertEqual(Fraction(number, UNIT ** power), up, (net, x, g, at))
        self.assertGreater(pushes, 800)


EDGE = Fraction(1, 10 ** 12)
COARSE = 65536


def unrounded(rng, net):
    """Layers and inputs like those of the net, but with whole weights and nothing that a mean could round."""
    layers = []
    for layer in with_weights(net[2], iter(lambda: rng.randint(-3, 3) * UNIT, None)):
        layers.append(coarse(rng, layer))
    return tuple(layers), tuple(rng.randint(-128, 128) * COARSE for _ in range(net[1]))


def coarse(rng, layer):
    if layer[0] in ("dense", "conv"):
        return layer[:2] + (tuple(rng.randint(-16, 16) * COARSE for _ in layer[2]),) + layer[3:]
    if layer[0] == "clamp":
        return ("clamp", rng.randint(-99, -1) * COARSE, rng.randint(1, 99) * COARSE)
    if layer[0] in ("sum", "fork"):
        return (layer[0],) + tuple(tuple(coarse(rng, inner) for inner in branch) for branch in layer[1:])
    return layer


def exact(layers, x):
    """What the layers give if nothing is rounded."""
    for layer in layers:
        kind = layer[0]
        if kind in ("dense", "conv"):
            size, stride = len(layer[1][0]), layer[3] if kind == "conv" else len(x)
            x = [clip(sum(a * b for a, b in zip(row, x[at:at + size])) / Fraction(UNIT) + bias, -TOP, TOP)
                 for row, bias in zip(layer[1], layer[2]) for at in range(0, len(x) - size + 1, stride)]
        elif kind == "relu":
            x = [max(signal, 0) for signal in x]
        elif kind == "clamp":
            x = [clip(signal, layer[1], layer[2]) for signal in x]
        elif kind in ("max", "mean"):
            pieces = [x[at:at + layer[1]] for at in range(0, len(x), layer[1])]
            x = [max(piece) if kind == "max" else sum(piece) / Fraction(layer[1]) for piece in pieces]
        elif kind == "sum":
            x = [clip(a + b, -TOP, TOP) for a, b in zip(exact(layer[1], x), exact(layer[2], x))]
        else:
            x = exact(layer[1], x) + exact(layer[2], x)
    return tuple(x)


def clip(number, low, high):
    return max(low, min(high, number))


def pushed(layers, x, g, at, push):
    """How much a push of the weight with that index changes the product of g and the outputs, by the push."""
    numbers = weights(layers)
    numbers[at] += push
    before, behind = exact(layers, x), exact(with_weights(layers, iter(numbers)), x)
    return sum((b - a) * factor for a, b, factor in zip(before, behind, g)) / push


if __name__ == "__main__":
    unittest.main()
