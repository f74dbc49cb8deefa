"""Promises n3, n4 and n6: what nets and layers give."""

import copy
import unittest

from wholenet.nets import class_of, gives, layer_signals, length_of, outputs, signals
from wholenet.numbers import MOST_SIGNAL, MOST_WEIGHT, UNIT

ONE = ("dense", ((UNIT,),), (0,))


class LayerCase(unittest.TestCase):
    def layer(self, layer, x, told):
        """The layer by itself, as the one layer of a net, and behind a layer that changes nothing."""
        given = layer_signals(layer, x)
        self.assertEqual(given, told)
        self.assertIs(type(given), tuple)
        self.assertEqual(gives(layer, len(x)), len(told))
        for layers in ((layer,), (("max", 1), layer)):
            net = ("net", len(x), layers)
            self.assertEqual(signals(net, x), [x] * len(layers) + [told])
            self.assertEqual(outputs(net, x), told)
            self.assertEqual(length_of(net), len(told))


class Dense(LayerCase):
    def test_ordinary(self):
        self.layer(("dense", ((4096, -4096), (2048, 2048)), (0, 1)), (3, 10), (-7, 7))

    def test_one_weight(self):
        self.layer(("dense", ((UNIT * 3,),), (5,)), (-7,), (-16,))

    def test_more_rows_than_inputs(self):
        self.layer(("dense", ((UNIT,), (-UNIT,), (0,)), (0, 0, 9)), (4,), (4, -4, 9))

    def test_ties_go_to_the_even_integer_ahead_of_the_bias(self):
        half = ("dense", ((2048,),), (1,))
        self.layer(half, (1,), (1,))
        self.layer(half, (3,), (3,))
        self.layer(half, (-1,), (1,))
        self.layer(half, (-3,), (-1,))

    def test_rounded_once_for_the_whole_row(self):
        self.layer(("dense", ((2048, 2048, 1),), (0,)), (1, 1, 0), (1,))
        self.layer(("dense", ((1366, 1366, 1366),), (0,)), (1, 1, 1), (1,))

    def test_clamped_behind_the_bias(self):
        for sign in (1, -1):
            top = (sign * MOST_SIGNAL,)
            self.layer(("dense", ((UNIT,),), (0,)), top, top)
            self.layer(("dense", ((UNIT,),), (sign,)), top, top)
            self.layer(("dense", ((UNIT,),), (-sign,)), top, (sign * (MOST_SIGNAL - 1),))
            self.layer(("dense", ((2 * UNIT,),), (-sign * MOST_WEIGHT,)), top, top)
            self.layer(("dense", ((UNIT,),), (sign,)), (sign * (MOST_SIGNAL - 1),), top)
            self.layer(("dense", ((MOST_WEIGHT,),), (0,)), top, top)


class Conv(LayerCase):
    def test_stride_one(self):
        self.layer(("conv", ((UNIT, -UNIT),), (0,), 1), (1, 4, 9, 16), (-3, -5, -7))

    def test_places_end_where_the_kernel_does(self):
        layer = ("conv", ((UNIT, 0),), (0,), 2)
        self.layer(layer, (1, 2), (1,))
        self.layer(layer, (1, 2, 3), (1,))
        self.layer(layer, (1, 2, 3, 4), (1, 3))
        self.layer(layer, (1, 2, 3, 4, 5), (1, 3))

    def test_one_kernel_behind_the_other(self):
        layer = ("conv", ((UNIT, 0), (0, UNIT)), (10, 20), 2)
        self.layer(layer, (1, 2, 3, 4), (11, 13, 22, 24))

    def test_kernel_as_long_as_the_row(self):
        self.layer(("conv", ((UNIT, UNIT, UNIT),), (0,), 1), (1, 2, 3), (6,))

    def test_kernel_of_one(self):
        self.layer(("conv", ((2 * UNIT,),), (-1,), 1), (1, 2, 3), (1, 3, 5))
        self.layer(("conv", ((2 * UNIT,),), (-1,), 2), (1, 2, 3), (1, 5))

    def test_stride_beyond_the_row(self):
        self.layer(("conv", ((UNIT,), (-UNIT,)), (0, 0), 64), (5, 6, 7), (5, -5))

    def test_rounds_and_clamps_like_dense(self):
        self.layer(("conv", ((2048,),), (1,), 1), (1, 3, -1, -3), (1, 3, 1, -1))
        self.layer(("conv", ((UNIT,),), (1,), 1), (MOST_SIGNAL, -MOST_SIGNAL), (MOST_SIGNAL, 1 - MOST_SIGNAL))
        self.layer(("conv", ((-UNIT,),), (-1,), 1), (MOST_SIGNAL, MOST_SIGNAL - 1), (-MOST_SIGNAL, -MOST_SIGNAL))
        self.layer(("conv", ((2 * UNIT,),), (-MOST_WEIGHT,), 1), (MOST_SIGNAL,), (MOST_SIGNAL,))

    def test_gives(self):
        layer = ("conv", ((1, 2, 3),) * 4, (0,) * 4, 3)
        self.assertEqual([gives(layer, n) for n in range(3, 13)], [4, 4, 4, 8, 8, 8, 12, 12, 12, 16])


class Simple(LayerCase):
    def test_relu(self):
        self.layer(("relu",), (-2, -1, 0, 1, 2), (0, 0, 0, 1, 2))
        self.layer(("relu",), (-MOST_SIGNAL, MOST_SIGNAL), (0, MOST_SIGNAL))

    def test_clamp(self):
        self.layer(("clamp", -2, 3), (-9, -3, -2, -1, 0, 2, 3, 4, 9), (-2, -2, -2, -1, 0, 2, 3, 3, 3))

    def test_clamp_away_from_zero(self):
        self.layer(("clamp", 2, 5), (0, 2, 3, 5, 6), (2, 2, 3, 5, 5))
        self.layer(("clamp", -5, -2), (0, -2, -3, -5, -6), (-2, -2, -3, -5, -5))

    def test_clamp_to_one_number(self):
        self.layer(("clamp", 4, 4), (-9, 4, 9), (4, 4, 4))

    def test_max(self):
        self.layer(("max", 2), (1, 5, 7, 7, -2, -3), (5, 7, -2))
        self.layer(("max", 3), (1, 5, 7, 7, -2, -3), (7, 7))
        self.layer(("max", 6), (1, 5, 7, 7, -2, -3), (7,))
        self.layer(("max", 1), (1, 5, -7), (1, 5, -7))

    def test_mean(self):
        self.layer(("mean", 2), (1, 2, 3, 4, -1, -2), (2, 4, -2))
        self.layer(("mean", 2), (1, 0, 2, 1, -1, 0, 5, 5), (0, 2, 0, 5))
        self.layer(("mean", 4), (1, 2, 3, 1), (2,))
        self.layer(("mean", 4), (1, 2, 3, 0), (2,))
        self.layer(("mean", 4), (1, 2, 2, 0, -3, -3, 0, -1), (1, -2))
        self.layer(("mean", 1), (1, 5, -7), (1, 5, -7))
        self.layer(("mean", 16), tuple(range(16)), (8,))

    def test_long_windows(self):
        x = tuple(range(64))
        self.assertEqual(layer_signals(("mean", 64), x), (32,))
        self.assertEqual(layer_signals(("mean", 32), x), (16, 48))
        self.assertEqual(layer_signals(("mean", 8), x)[:2], (4, 12))
        self.assertEqual(layer_signals(("max", 64), x), (63,))
        self.assertEqual([gives(("mean", size), 64) for size in (1, 2, 4, 8, 16, 32, 64)], [64, 32, 16, 8, 4, 2, 1])
        self.assertEqual([gives(("max", size), 12) for size in (1, 2, 3, 4, 6, 12)], [12, 6, 4, 3, 2, 1])


class Branches(LayerCase):
    def test_sum_of_nothing(self):
        self.layer(("sum", (), ()), (1, -2, 3), (2, -4, 6))

    def test_sum_with_one_empty_branch(self):
        self.layer(("sum", (("relu",),), ()), (1, -2), (2, -2))
        self.layer(("sum", (), (("relu",),)), (1, -2), (2, -2))

    def test_sum_of_layers(self):
        first = (("dense", ((UNIT, UNIT), (0, UNIT)), (0, 5)), ("relu",))
        second = (("conv", ((UNIT,),), (100,), 1),)
        self.layer(("sum", first, second), (-4, 1), (96, 107))

    def test_sum_clamps(self):
        for sign in (1, -1):
            top, half = sign * MOST_SIGNAL, sign * MOST_SIGNAL // 2
            self.layer(("sum", (), ()), (top, half, half + sign, half - sign), (top, top, top, top - 2 * sign))

    def test_sum_clamps_each_branch_by_its_own_layers(self):
        twice = (("dense", ((2 * UNIT,),), (0,)),)
        back = (("dense", ((-UNIT,),), (0,)),)
        self.layer(("sum", twice, back), (MOST_SIGNAL,), (0,))

    def test_fork_of_nothing(self):
        self.layer(("fork", (), ()), (1, -2), (1, -2, 1, -2))

    def test_fork_with_one_empty_branch(self):
        self.layer(("fork", (("relu",),), ()), (1, -2), (1, 0, 1, -2))
        self.layer(("fork", (), (("relu",),)), (1, -2), (1, -2, 1, 0))

    def test_fork_of_unlike_lengths(self):
        first = (("max", 2), ("clamp", 0, 3))
        second = (("dense", ((UNIT, 0), (0, UNIT), (UNIT, UNIT)), (0, 0, 0)),)
        self.layer(("fork", first, second), (5, 4), (3, 5, 4, 9))
        self.assertEqual(gives(("fork", first, second), 2), 4)

    def test_fork_clamps_nothing(self):
        self.layer(("fork", (), ()), (MOST_SIGNAL, -MOST_SIGNAL), (MOST_SIGNAL, -MOST_SIGNAL) * 2)

    def test_lengths_within_branches(self):
        conv = ("conv", ((1, 1),) * 3, (0,) * 3, 2)
        self.assertEqual(gives(("sum", (conv, ("max", 3)), (("max", 2),)), 6), 3)
        self.assertEqual(gives(("fork", (conv, ("max", 3)), (("mean", 2),)), 6), 6)
        self.assertEqual(gives(("fork", (conv,), ()), 6), 15)


class Nets(unittest.TestCase):
    def test_net_without_layers(self):
        net = ("net", 3, ())
        self.assertEqual(signals(net, (1, -2, 3)), [(1, -2, 3)])
        self.assertEqual(outputs(net, (1, -2, 3)), (1, -2, 3))
        self.assertEqual(length_of(net), 3)

    def test_example(self):
        net = ("net", 2, (("dense", ((4096, -4096), (2048, 2048)), (0, 1)), ("relu",)))
        self.assertEqual(signals(net, (3, 10)), [(3, 10), (-7, 7), (0, 7)])
        self.assertEqual(gives(("conv", ((1, 2),), (0,), 2), 5), 2)

    def test_rows_of_a_long_net(self):
        net = ("net", 4, (
            ("conv", ((UNIT, -UNIT), (UNIT, UNIT)), (0, 0), 1),
            ("relu",),
            ("max", 3),
            ("clamp", 1, 20),
            ("fork", (("mean", 2),), ()),
            ("sum", (("relu",),), (("dense", ((0, 0, 0),) * 3, (1, 2, 3)),)),
            ("dense", ((UNIT, UNIT, UNIT),), (-1,)),
        ))
        told = [(1, 4, 9, 16), (-3, -5, -7, 5, 13, 25), (0, 0, 0, 5, 13, 25), (0, 25), (1, 20),
                (10, 1, 20), (11, 3, 23), (36,)]
        given = signals(net, (1, 4, 9, 16))
        self.assertEqual(given, told)
        self.assertIs(type(given), list)
        for row in given:
            self.assertIs(type(row), tuple)
        self.assertEqual(outputs(net, (1, 4, 9, 16)), (36,))
        self.assertEqual(length_of(net), 1)
        self.assertEqual([length_of(("net", 4, net[2][:count])) for count in range(8)], [len(row) for row in told])

    def test_signals_begin_with_the_input_itself(self):
        x = (5, 6)
        self.assertIs(signals(("net", 2, (("relu",),)), x)[0], x)

    def test_twelve_layers_and_as_many_in_branches(self):
        step = ("dense", ((UNIT,),), (1,))
        self.assertEqual(outputs(("net", 1, (step,) * 12), (0,)), (12,))
        self.assertEqual(outputs(("net", 1, (("sum", (step,) * 12, (step,) * 5),)), (0,)), (17,))

    def test_changes_nothing(self):
        net = ("net", 2, (("sum", (ONE[:1] + (((1, 2), (3, 4)), (5, 6)),), ()), ("fork", (), (("max", 2),))))
        before = copy.deepcopy(net)
        x = (7, 8)
        rows = signals(net, x)
        rows[0] = None
        self.assertEqual(outputs(net, x), signals(net, x)[-1])
        self.assertEqual((net, x), (before, (7, 8)))


class Classes(unittest.TestCase):
    def test_example(self):
        self.assertEqual(class_of((3, 7, 7)), 1)

    def test_a_single_one(self):
        for only in (-5, 0, 5):
            self.assertEqual(class_of((only,)), 0)

    def test_one_greatest(self):
        self.assertEqual([class_of(row) for row in ((9, 1, 2), (1, 9, 2), (1, 2, 9))], [0, 1, 2])
        self.assertEqual(class_of((-9, -1, -2)), 1)

    def test_several_greatest(self):
        self.assertEqual(class_of((4, 4)), 0)
        self.assertEqual(class_of((0, 0, 0)), 0)
        self.assertEqual(class_of((1, 4, 2, 4, 4)), 1)
        self.assertEqual(class_of((-2, -7, -2)), 0)
        self.assertEqual(class_of((MOST_SIGNAL - 1, MOST_SIGNAL, MOST_SIGNAL)), 1)


if __name__ == "__main__":
    unittest.main()
