"""Promise j1: the ranges of signals on a box."""

import copy
import random
import unittest

from tests import reference
from tests.helper import BRANCHED_KINDS, PLAIN_KINDS, all_points, some_box, some_layer, some_net
from wholenet.nets import length_of, signals
from wholenet.numbers import MOST_SIGNAL, MOST_WEIGHT, UNIT
from wholenet.ranges import ranges_of

TOP = MOST_SIGNAL
DOUBLE = ("dense", ((2 * UNIT,),), (0,))


class RangesCase(unittest.TestCase):
    def layer(self, layer, ranges, told):
        """The layer by itself, and within a longer net."""
        self.assertEqual(ranges_of((layer,), ranges), [ranges, told])
        nothing = ("max", 1)
        self.assertEqual(ranges_of((nothing, layer, nothing), ranges), [ranges, ranges, told, told])


class Weighed(RangesCase):
    def test_weights_of_both_signs(self):
        ranges = ((-3, 5), (2, 7))
        self.layer(("dense", ((UNIT, UNIT),), (0,)), ranges, ((-1, 12),))
        self.layer(("dense", ((UNIT, -UNIT),), (0,)), ranges, ((-10, 3),))
        self.layer(("dense", ((-UNIT, UNIT),), (0,)), ranges, ((-3, 10),))
        self.layer(("dense", ((-UNIT, -UNIT),), (0,)), ranges, ((-12, 1),))

    def test_weights_of_zero(self):
        self.layer(("dense", ((0, UNIT), (0, 0)), (4, -4)), ((-3, 5), (2, 7)), ((6, 11), (-4, -4)))

    def test_rows_in_order_with_their_biases(self):
        self.layer(("dense", ((UNIT,), (-UNIT,), (2 * UNIT,)), (100, 200, 300)), ((-3, 5),),
                   ((97, 105), (195, 203), (294, 310)))

    def test_each_end_is_rounded_once(self):
        half = UNIT // 2
        self.layer(("dense", ((half, half),), (0,)), ((1, 3), (0, 4)), ((0, 4),))
        self.layer(("dense", ((half,),), (1,)), ((-3, 5),), ((-1, 3),))
        self.layer(("dense", ((-half,),), (1,)), ((-3, 5),), ((-1, 3),))

    def test_a_point(self):
        self.layer(("dense", ((3 * UNIT, -UNIT),), (1,)), ((5, 5), (2, 2)), ((14, 14),))

    def test_clamped_behind_the_bias(self):
        half = TOP // 2
        self.layer(DOUBLE, ((-half, half),), ((-TOP, TOP),))
        self.layer(DOUBLE, ((-half - 1, half + 1),), ((-TOP, TOP),))
        self.layer(DOUBLE, ((-half + 1, half - 1),), ((-TOP + 2, TOP - 2),))
        self.layer(DOUBLE, ((half + 1, TOP),), ((TOP, TOP),))
        self.layer(DOUBLE, ((-TOP, -half - 1),), ((-TOP, -TOP),))
        self.layer(("dense", ((2 * UNIT,),), (-7,)), ((half + 1, half + 9),), ((TOP - 5, TOP),))
        self.layer(("dense", ((MOST_WEIGHT,),), (MOST_WEIGHT,)), ((-TOP, TOP),), ((-TOP, TOP),))

    def test_conv(self):
        ranges = ((-1, 1), (0, 2), (3, 5), (-4, 0))
        self.layer(("conv", ((UNIT, -UNIT),), (10,), 1), ranges, ((7, 11), (5, 9), (13, 19)))
        self.layer(("conv", ((UNIT, -UNIT), (0, UNIT)), (10, 0), 2), ranges, ((7, 11), (13, 19), (0, 2), (-4, 0)))
        self.layer(("conv", ((2 * UNIT,),), (0,), 3), ((TOP, TOP), (0, 0), (0, 0), (-TOP, 1)), ((TOP, TOP), (-TOP, 2)))


class Plain(RangesCase):
    def test_relu(self):
        self.layer(("relu",), ((-3, 5), (-3, -1), (-3, 0), (0, 4), (2, 4), (0, 0)),
                   ((0, 5), (0, 0), (0, 0), (0, 4), (2, 4), (0, 0)))

    def test_clamp(self):
        self.layer(("clamp", -2, 3), ((-3, 5), (-2, 3), (-9, -5), (5, 9), (-1, 1), (3, 4), (-4, 1)),
                   ((-2, 3), (-2, 3), (-2, -2), (3, 3), (-1, 1), (3, 3), (-2, 1)))

    def test_max(self):
        self.layer(("max", 2), ((-3, 5), (-2, 4), (1, 2), (3, 9)), ((-2, 5), (3, 9)))
        self.layer(("max", 4), ((-3, 5), (-2, 4), (1, 2), (-9, 9)), ((1, 9),))
        self.layer(("max", 1), ((-3, 5), (-2, 4)), ((-3, 5), (-2, 4)))

    def test_mean(self):
        self.layer(("mean", 2), ((-3, 5), (-2, 4), (1, 1), (2, 4)), ((-2, 4), (2, 2)))
        self.layer(("mean", 4), ((0, 1), (0, 2), (2, 3), (4, 4)), ((2, 2),))
        self.layer(("mean", 1), ((-3, 5), (-2, 4)), ((-3, 5), (-2, 4)))


class Branched(RangesCase):
    def test_sum(self):
        self.layer(("sum", (("relu",),), ()), ((-3, 5), (1, 2)), ((-3, 10), (2, 4)))
        self.layer(("sum", (), (("relu",),)), ((-3, 5), (1, 2)), ((-3, 10), (2, 4)))
        self.layer(("sum", (), ()), ((-3, 5),), ((-6, 10),))
        self.layer(("sum", (("relu",), DOUBLE), (("clamp", -1, 1),)), ((-3, 5),), ((-1, 11),))

    def test_sum_clamped(self):
        half = TOP // 2
        self.layer(("sum", (), ()), ((-half - 1, half + 1), (-half, half), (half + 1, TOP), (-TOP, -half - 1)),
                   ((-TOP, TOP), (-TOP, TOP), (TOP, TOP), (-TOP, -TOP)))
        self.layer(("sum", (), ()), ((-half + 1, half - 1),), ((-TOP + 2, TOP - 2),))

    def test_fork(self):
        self.layer(("fork", (("relu",),), ()), ((-3, 5), (1, 2)), ((0, 5), (1, 2), (-3, 5), (1, 2)))
        self.layer(("fork", (), (("max", 2),)), ((-3, 5), (1, 2)), ((-3, 5), (1, 2), (1, 5)))
        self.layer(("fork", (), ()), ((-3, 5),), ((-3, 5), (-3, 5)))
        self.layer(("fork", (), ()), ((-TOP, TOP),), ((-TOP, TOP), (-TOP, TOP)))

    def test_only_what_is_given_is_told(self):
        layers = (("fork", (DOUBLE, ("relu",)), ()), ("max", 2))
        self.assertEqual(ranges_of(layers, ((-3, 5),)), [((-3, 5),), ((0, 10), (-3, 5)), ((0, 10),)])


class Lists(unittest.TestCase):
    def test_without_layers(self):
        self.assertEqual(ranges_of((), ((-3, 5), (1, 1))), [((-3, 5), (1, 1))])

    def test_the_example_of_the_document(self):
        self.assertEqual(ranges_of((("relu",),), ((-3, 5),)), [((-3, 5),), ((0, 5),)])

    def test_a_list_of_tuples_of_pairs(self):
        layers = (DOUBLE, ("relu",), ("fork", (), ()), ("sum", (), ()), ("clamp", 0, 1), ("mean", 2))
        told = ranges_of(layers, ((-3, 5),))
        self.assertIs(type(told), list)
        for row in told:
            self.assertIs(type(row), tuple)
            for pair in row:
                self.assertIs(type(pair), tuple)
                self.assertEqual([type(end) for end in pair], [int, int])


class SomeNets(unittest.TestCase):
    def test_every_point_lies_within(self):
        rng = random.Random(41)
        for case in range(300):
            most = rng.choice((2 * UNIT, MOST_WEIGHT))
            net = some_net(rng, most=most)
            box = some_box(rng, net[1], rng.choice((9, 8 * UNIT, TOP)))
            rows = ranges_of(net[2], box)
            self.assertEqual(len(rows), len(net[2]) + 1)
            for point in all_points(box):
                for row, ranges in zip(signals(net, point), rows):
                    self.assertEqual(len(row), len(ranges))
                    for signal, (low, high) in zip(row, ranges):
                        self.assertTrue(low <= signal <= high)

    def test_a_point_is_told_as_it_is(self):
        rng = random.Random(42)
        for case in range(200):
            net = some_net(rng, most=rng.choice((2 * UNIT, MOST_WEIGHT)))
            box = some_box(rng, net[1], TOP, most_points=1)
            point = all_points(box)[0]
            told = [tuple((signal, signal) for signal in row) for row in signals(net, point)]
            self.assertEqual(ranges_of(net[2], box), told)

    def test_as_the_document_words_it(self):
        rng = random.Random(43)
        for case in range(600):
            net = some_net(rng, most=rng.choice((2 * UNIT, MOST_WEIGHT)))
            box = some_box(rng, net[1], rng.choice((9, 8 * UNIT, TOP)), rng.choice((1, 64, 10 ** 6, TOP)))
            self.assertEqual(ranges_of(net[2], box), reference.ranges_of(net[2], box))
            self.assertEqual(len(ranges_of(net[2], box)[-1]), length_of(net))

    def test_the_arguments_stay(self):
        rng = random.Random(44)
        for kind in PLAIN_KINDS + BRANCHED_KINDS:
            layers = (some_layer(rng, 4, kind), ("relu",))
            ranges = ((-3, 5), (1, 2), (-TOP, TOP), (0, 0))
            before = copy.deepcopy((layers, ranges))
            self.assertEqual(ranges_of(layers, ranges), ranges_of(layers, ranges))
            self.assertEqual((layers, ranges), before)


if __name__ == "__main__":
    unittest.main()
