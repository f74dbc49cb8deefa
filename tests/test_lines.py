"""Promise j4: lines that are taken back through layers, and how many signals cross."""

import copy
import itertools
import random
import unittest

from tests import reference
from tests.helper import BRANCHED_KINDS, PLAIN_KINDS, all_points, some_box, some_layer, some_layers, some_net
from wholenet.lines import crossing, line_back
from wholenet.nets import length_of, outputs
from wholenet.numbers import MOST_SIGNAL, MOST_WEIGHT, UNIT
from wholenet.ranges import ranges_of

TOP = MOST_SIGNAL
HALF = UNIT // 2
RELU = ("relu",)
ONE = ("dense", ((UNIT,),), (0,))
DOUBLE = ("dense", ((2 * UNIT,),), (0,))


class LineCase(unittest.TestCase):
    def back(self, layer, ranges, line, told, choices=()):
        """The line ahead of the layer; also of the layer behind and ahead of others, and as one with another start."""
        self.assertEqual(line_back((layer,), ranges, line, list(choices)), told)
        nothing = ("max", 1)
        self.assertEqual(line_back((nothing, layer, nothing), ranges, line, list(choices)), told)
        scale, factors, constant = line
        # A scale and a constant of the line do not touch its factors.
        plain = line_back((layer,), ranges, (1, factors, 0), list(choices))
        raised = line_back((layer,), ranges, (3, factors, 7), list(choices))
        self.assertEqual(raised, (plain[0] * 3, plain[1], plain[2] + 7 * plain[0]))


class Weighed(LineCase):
    LAYER = ("dense", ((UNIT, -3), (5, 0)), (10, -20))
    RANGES = ((-3, 5), (2, 7))

    def test_factors_of_both_signs_and_zero(self):
        self.back(self.LAYER, self.RANGES, (1, (1, 0), 0), (UNIT, (UNIT, -3), UNIT * 10 - HALF))
        self.back(self.LAYER, self.RANGES, (1, (-1, 0), 0), (UNIT, (-UNIT, 3), -UNIT * 10 - HALF))
        self.back(self.LAYER, self.RANGES, (1, (0, 2), 0), (UNIT, (10, 0), -UNIT * 40 - 2 * HALF))
        self.back(self.LAYER, self.RANGES, (1, (0, 0), 0), (UNIT, (0, 0), 0))
        self.back(self.LAYER, self.RANGES, (1, (2, -3), 0),
                  (UNIT, (2 * UNIT - 15, -6), UNIT * 80 - 5 * HALF))

    def test_scale_and_constant(self):
        self.back(self.LAYER, self.RANGES, (5, (1, 0), -9), (5 * UNIT, (UNIT, -3), UNIT - HALF))
        self.back(self.LAYER, self.RANGES, (7, (0, 0), 11), (7 * UNIT, (0, 0), 11 * UNIT))

    def test_outputs_that_are_clamped(self):
        half = TOP // 2
        for ranges, low, high in ((((-half, half + 1),), -TOP, TOP), (((-half - 1, half),), -TOP, TOP),
                                  (((half + 1, TOP),), TOP, TOP), (((-TOP, 5),), -TOP, 10), (((5, TOP),), 10, TOP)):
            self.back(DOUBLE, ranges, (1, (1,), 0), (UNIT, (0,), UNIT * low))
            self.back(DOUBLE, ranges, (1, (0,), 0), (UNIT, (0,), 0))
            self.back(DOUBLE, ranges, (1, (-1,), 0), (UNIT, (0,), -UNIT * high))
            self.back(DOUBLE, ranges, (2, (-3,), 4), (2 * UNIT, (0,), UNIT * (4 - 3 * high)))

    def test_outputs_that_just_are_not(self):
        half = TOP // 2
        self.back(DOUBLE, ((-half, half),), (1, (1,), 0), (UNIT, (2 * UNIT,), -HALF))
        self.back(DOUBLE, ((-half, half),), (1, (-1,), 0), (UNIT, (-2 * UNIT,), -HALF))

    def test_the_range_ahead_of_the_clamping_counts_the_bias(self):
        half = TOP // 2
        self.back(("dense", ((2 * UNIT,),), (-2,)), ((0, half + 1),), (1, (1,), 0), (UNIT, (2 * UNIT,), -2 * UNIT - HALF))
        self.back(("dense", ((2 * UNIT,),), (-1,)), ((0, half + 1),), (1, (1,), 0), (UNIT, (0,), -UNIT))
        self.back(("dense", ((2 * UNIT,),), (1,)), ((0, half),), (1, (-1,), 0), (UNIT, (0,), -UNIT * TOP))

    def test_clamped_beside_one_that_is_not(self):
        layer = ("dense", ((2 * UNIT, 0), (1, UNIT), (0, -2 * UNIT)), (0, 3, 0))
        ranges = ((0, TOP), (-TOP, 1))
        self.back(layer, ranges, (1, (1, 1, 1), 0), (UNIT, (1, UNIT), UNIT * (0 + 3 - 2) - HALF))
        self.back(layer, ranges, (1, (-1, -1, -1), 0), (UNIT, (-1, -UNIT), UNIT * (-TOP - 3 - TOP) - HALF))

    def test_conv(self):
        layer = ("conv", ((UNIT, 2), (-1, 3)), (5, 6), 1)
        ranges = ((-3, 5), (2, 7), (0, 1))
        self.back(layer, ranges, (1, (1, 10, 100, 1000), 0),
                  (UNIT, (UNIT - 100, 2 + 10 * UNIT + 300 - 1000, 20 + 3000), UNIT * (55 + 6600) - 1111 * HALF))
        self.back(layer, ranges, (1, (0, -1, 0, 1), 0), (UNIT, (0, -UNIT - 1, -2 + 3), UNIT * (-5 + 6) - 2 * HALF))

    def test_conv_with_a_stride_and_clamped_outputs(self):
        layer = ("conv", ((2 * UNIT,),), (0,), 2)
        ranges = ((0, TOP), (0, TOP), (-4, 6))
        self.back(layer, ranges, (1, (1, 1), 0), (UNIT, (0, 0, 2 * UNIT), -HALF))
        self.back(layer, ranges, (1, (-1, -1), 0), (UNIT, (0, 0, -2 * UNIT), -UNIT * TOP - HALF))


class Relu(LineCase):
    def test_without_inputs_that_cross(self):
        ranges = ((0, 5), (2, 5), (-5, 0), (-5, -2), (0, 0))
        self.back(RELU, ranges, (3, (1, 2, 3, 4, 5), 6), (3, (1, 2, 0, 0, 0), 6))
        self.back(RELU, ranges, (3, (-1, -2, -3, -4, -5), 6), (3, (-1, -2, 0, 0, 0), 6))
        self.back(RELU, ((-1, 0), (0, 1)), (1, (1, 1), 0), (1, (0, 1), 0))

    def test_the_example_of_the_document(self):
        self.assertEqual(line_back((RELU,), ((-3, 5),), (1, (-1,), 0), [0]), (4096, (-2560,), -7680))

    def test_one_that_crosses(self):
        for choice in (0, 1):
            self.back(RELU, ((-3, 5),), (1, (2,), 0), (UNIT, (2 * UNIT * choice,), 0), (choice,))
            self.back(RELU, ((-3, 5),), (1, (0,), 0), (UNIT, (0,), 0), (choice,))
            self.back(RELU, ((-3, 5),), (1, (-2,), 0), (UNIT, (-5120,), -15360), (choice,))
            self.back(RELU, ((-1, 1),), (5, (-1,), 2), (5 * UNIT, (-HALF,), 2 * UNIT - HALF), (choice,))

    def test_the_slope_is_rounded_up(self):
        self.back(RELU, ((-1, 2),), (1, (-1,), 0), (UNIT, (-2731,), -2731), (0,))
        self.back(RELU, ((-2, 1),), (1, (-1,), 0), (UNIT, (-1366,), -2732), (0,))
        self.back(RELU, ((-TOP, 1),), (1, (-1,), 0), (UNIT, (-1,), -TOP), (0,))
        self.back(RELU, ((-1, TOP),), (1, (-1,), 0), (UNIT, (-UNIT,), -UNIT), (0,))

    def test_beside_inputs_that_cross(self):
        ranges = ((-3, 5), (0, 5), (-5, 0), (-1, 1), (1, 2), (-2, -1))
        self.back(RELU, ranges, (1, (1, 2, 3, 4, 5, 6), 7),
                  (UNIT, (UNIT, 2 * UNIT, 0, 0, 5 * UNIT, 0), 7 * UNIT), (1, 0))
        self.back(RELU, ranges, (1, (1, -2, -3, 4, -5, -6), 7),
                  (UNIT, (0, -2 * UNIT, 0, 4 * UNIT, -5 * UNIT, 0), 7 * UNIT), (0, 1))
        self.back(RELU, ranges, (1, (-1, 0, 0, -1, 0, 0), 0), (UNIT, (-2560, 0, 0, -HALF, 0, 0), -7680 - HALF), (0, 1))

    def test_a_choice_counts_also_where_the_factor_is_0_or_below(self):
        ranges = ((-1, 1), (-1, 1), (-1, 1))
        self.back(RELU, ranges, (1, (0, 1, 0), 0), (UNIT, (0, 0, 0), 0), (1, 0, 1))
        self.back(RELU, ranges, (1, (0, 1, 0), 0), (UNIT, (0, UNIT, 0), 0), (0, 1, 0))
        self.back(RELU, ranges, (1, (-1, 1, 1), 0), (UNIT, (-HALF, UNIT, 0), -HALF), (0, 1, 0))


class Clamp(LineCase):
    def test_inputs_within(self):
        ranges = ((-2, 3), (-1, 1), (3, 3), (-2, -2))
        self.back(("clamp", -2, 3), ranges, (2, (1, -1, 0, 4), 5), (2, (1, -1, 0, 4), 5))

    def test_inputs_that_are_not(self):
        for ranges, low, high in ((((-3, 3),), -2, 3), (((-2, 4),), -2, 3), (((-9, -3),), -2, -2), (((4, 9),), 3, 3),
                                  (((-3, 1),), -2, 1), (((1, 4),), 1, 3)):
            self.back(("clamp", -2, 3), ranges, (2, (10,), 5), (2, (0,), 5 + 10 * low))
            self.back(("clamp", -2, 3), ranges, (2, (0,), 5), (2, (0,), 5))
            self.back(("clamp", -2, 3), ranges, (2, (-10,), 5), (2, (0,), 5 - 10 * high))

    def test_both_beside_each_other(self):
        ranges = ((-3, 1), (0, 1), (0, 9))
        self.back(("clamp", -2, 3), ranges, (1, (1, 1, -1), 0), (1, (0, 1, 0), -2 - 3))


class Max(LineCase):
    def test_one_that_is_at_least_all_others(self):
        ranges = ((-3, 1), (2, 4), (0, 1))
        for factor in (5, 0, -5):
            self.back(("max", 3), ranges, (2, (factor,), 7), (2, (0, factor, 0), 7))

    def test_just_at_the_high_of_another(self):
        for factor in (1, -1):
            self.back(("max", 2), ((-3, 2), (2, 4)), (1, (factor,), 0), (1, (0, factor), 0))
            self.back(("max", 2), ((2, 4), (-3, 2)), (1, (factor,), 0), (1, (factor, 0), 0))

    def test_a_tie_goes_to_the_first(self):
        for factor in (1, -1):
            self.back(("max", 3), ((0, 1), (2, 2), (2, 2)), (1, (factor,), 0), (1, (0, factor, 0), 0))
            # The low of the second is as great, but only the third is never below another one.
            self.back(("max", 3), ((0, 1), (2, 2), (2, 3)), (1, (factor,), 0), (1, (0, 0, factor), 0))

    def test_without_one(self):
        ranges = ((-3, 9), (2, 4), (2, 8), (1, 3))
        self.back(("max", 4), ranges, (1, (2,), 5), (1, (0, 2, 0, 0), 5))
        self.back(("max", 4), ranges, (1, (0,), 5), (1, (0, 0, 0, 0), 5))
        self.back(("max", 4), ranges, (1, (-2,), 5), (1, (0, 0, 0, 0), 5 - 18))
        self.back(("max", 2), ((2, 4), (1, 3)), (1, (-1,), 0), (1, (0, 0), -4))
        self.back(("max", 2), ((2, 4), (1, 3)), (1, (1,), 0), (1, (1, 0), 0))

    def test_windows(self):
        ranges = ((-3, 1), (2, 4), (0, 5), (1, 6))
        self.back(("max", 2), ranges, (1, (3, 4), 0), (1, (0, 3, 0, 4), 0))
        self.back(("max", 2), ranges, (1, (-3, -4), 0), (1, (0, -3, 0, 0), -24))

    def test_windows_of_one(self):
        self.back(("max", 1), ((-3, 1), (2, 4)), (1, (3, -4), 2), (1, (3, -4), 2))


class Mean(LineCase):
    def test_ordinary(self):
        ranges = ((-3, 1), (2, 4), (0, 5), (1, 6))
        self.back(("mean", 2), ranges, (1, (3, -4), 0), (2, (3, 3, -4, -4), -7))
        self.back(("mean", 2), ranges, (3, (0, 5), 10), (6, (0, 0, 5, 5), 20 - 5))
        self.back(("mean", 4), ranges, (3, (-2,), 10), (12, (-2, -2, -2, -2), 40 - 4))

    def test_windows_of_one(self):
        self.back(("mean", 1), ((-3, 1), (2, 4)), (3, (3, -4), 10), (3, (3, -4), 10))


class Branched(LineCase):
    def test_sum_of_empty_branches(self):
        self.back(("sum", (), ()), ((-3, 5), (1, 2)), (2, (3, -4), 5), (2, (6, -8), 5))

    def test_sum_with_clamped_outputs(self):
        half = TOP // 2
        for ranges, low, high in ((((-half, half + 1),), -TOP, TOP), (((-half - 1, half),), -TOP, TOP),
                                  (((half + 1, TOP),), TOP, TOP), (((-5, TOP),), -10, TOP), (((-TOP, 5),), -TOP, 10)):
            self.back(("sum", (), ()), ranges, (2, (3,), 5), (2, (0,), 5 + 3 * low))
            self.back(("sum", (), ()), ranges, (2, (0,), 5), (2, (0,), 5))
            self.back(("sum", (), ()), ranges, (2, (-3,), 5), (2, (0,), 5 - 3 * high))
        self.back(("sum", (), ()), ((-half, half),), (2, (3,), 5), (2, (6,), 5))

    def test_a_clamped_output_is_added_ahead_of_the_scales(self):
        # The first branch has the scale UNIT, and the factor of the output that is not clamped goes through it.
        layer = ("sum", (("dense", ((UNIT, 0), (0, UNIT)), (1, 1)),), ())
        ranges = ((0, TOP), (0, 5))
        self.back(layer, ranges, (2, (-3, 4), 5),
                  (2 * UNIT, (0, 8 * UNIT), UNIT * (5 - 3 * TOP) + 4 * UNIT - 4 * HALF))
        # Both the branch and the sum are clamped: 0 goes into the branch.
        layer = ("sum", (DOUBLE,), ())
        self.back(layer, ((0, TOP),), (2, (-3,), 5), (2 * UNIT, (0,), UNIT * (5 - 3 * TOP)))

    def test_sum_of_branches_with_different_scales(self):
        layer = ("sum", (("dense", ((3, 4),), (5,)),), (("mean", 2),))
        ranges = ((0, 4), (0, 6))
        self.back(layer, ranges, (7, (2,), 9),
                  (7 * UNIT * 2, (2 * 3 * 2 + 2 * UNIT, 2 * 4 * 2 + 2 * UNIT),
                   9 * UNIT * 2 + (2 * UNIT * 5 - 2 * HALF) * 2 - 2 * UNIT))
        exchanged = (layer[0], layer[2], layer[1])
        self.assertEqual(line_back((exchanged,), ranges, (7, (2,), 9), []),
                         line_back((layer,), ranges, (7, (2,), 9), []))

    def test_fork_of_empty_branches(self):
        self.back(("fork", (), ()), ((-3, 5), (1, 2)), (2, (3, -4, 10, 20), 5), (2, (13, 16), 5))

    def test_fork_of_branches_with_different_scales(self):
        layer = ("fork", (("dense", ((3, 4),), (5,)),), (("mean", 2),))
        ranges = ((0, 4), (0, 6))
        self.back(layer, ranges, (7, (2, -1), 9),
                  (7 * UNIT * 2, (2 * 3 * 2 - UNIT, 2 * 4 * 2 - UNIT),
                   9 * UNIT * 2 + (2 * UNIT * 5 - 2 * HALF) * 2 - UNIT))
        exchanged = (layer[0], layer[2], layer[1])
        self.assertEqual(line_back((exchanged,), ranges, (7, (-1, 2), 9), []),
                         line_back((layer,), ranges, (7, (2, -1), 9), []))

    def test_fork_of_parts_of_other_lengths(self):
        layer = ("fork", (("max", 2),), (RELU,))
        self.back(layer, ((1, 2), (3, 4)), (1, (5, 6, 7), 8), (1, (6, 12), 8))

    def test_fork_is_not_clamped(self):
        self.back(("fork", (), ()), ((-TOP, TOP),), (1, (3, -4), 5), (1, (-1,), 5))


class Choices(unittest.TestCase):
    """The layers from the inputs on, the first branch ahead of the second, within a layer in the order of signals."""

    def told(self, layers, ranges, factors):
        """The factors of the line for each list of choices."""
        many = crossing(layers, ranges)
        lists = itertools.product((0, 1), repeat=many)
        return {choices: line_back(layers, ranges, (1, factors, 0), list(choices)) for choices in lists}

    def test_signals_in_order(self):
        told = self.told((RELU,), ((-1, 1), (0, 1), (-1, 1)), (1, 1, 1))
        self.assertEqual(told[0, 1], (UNIT, (0, UNIT, UNIT), 0))
        self.assertEqual(told[1, 0], (UNIT, (UNIT, UNIT, 0), 0))

    def test_layers_from_the_inputs_on(self):
        # Behind the first relu and the dense layer the one signal crosses again.
        layers = (RELU, ("dense", ((UNIT, UNIT),), (-1,)), RELU)
        ranges = ((-1, 1), (-2, 2))
        self.assertEqual(crossing(layers, ranges), 3)
        told = self.told(layers, ranges, (1,))
        self.assertEqual(told[0, 0, 1], (UNIT ** 3, (0, 0), UNIT * UNIT * (-UNIT - HALF)))
        self.assertEqual(told[1, 0, 1], (UNIT ** 3, (UNIT ** 3, 0), UNIT * UNIT * (-UNIT - HALF)))
        self.assertEqual(told[0, 1, 1], (UNIT ** 3, (0, UNIT ** 3), UNIT * UNIT * (-UNIT - HALF)))
        self.assertEqual(told[1, 1, 0], (UNIT ** 3, (0, 0), 0))

    def test_the_first_branch_ahead_of_the_second(self):
        for kind, factors in (("sum", (1,)), ("fork", (1, 1))):
            layers = (("max", 1), (kind, (RELU, ("max", 1)), (DOUBLE, RELU)), ("max", 1))
            told = self.told(layers, ((-1, 1),), factors)
            self.assertEqual(told[1, 0], (UNIT ** 3, (UNIT ** 3,), 0), kind)
            # The line of the second branch: 2 * x with the scale UNIT ** 2, less its rounding.
            self.assertEqual(told[0, 1], (UNIT ** 3, (2 * UNIT ** 3,), -HALF * UNIT * UNIT), kind)

    def test_layers_ahead_of_and_behind_branches(self):
        layers = (RELU, ("sum", (RELU,), (("clamp", -9, 9),)), ("dense", ((UNIT,),), (-2,)), RELU)
        ranges = ((-3, 3),)
        # Behind the first relu nothing crosses until the last one.
        self.assertEqual(crossing(layers, ranges), 2)
        told = self.told(layers, ranges, (1,))
        self.assertEqual(told[0, 1][1], (0,))
        self.assertEqual(told[1, 0][1], (0,))
        self.assertEqual(told[1, 1][1], (2 * UNIT ** 3,))

    def test_choices_count_where_the_output_of_a_sum_is_clamped(self):
        # The first output is clamped, so its factor in the branches is 0, but its signal crosses and has a choice.
        layers = (("sum", (RELU,), ()),)
        ranges = ((-1, TOP), (-1, 1))
        self.assertEqual(crossing(layers, ranges), 2)
        told = self.told(layers, ranges, (1, 1))
        self.assertEqual(told[1, 0], (UNIT, (0, UNIT), -UNIT))
        self.assertEqual(told[0, 1], (UNIT, (0, 2 * UNIT), -UNIT))


class Crossing(unittest.TestCase):
    def test_ends_at_zero(self):
        self.assertEqual(crossing((RELU,), ((-1, 1), (0, 1), (-1, 0), (0, 0), (1, 2), (-2, -1), (-5, 3))), 2)

    def test_other_layers(self):
        for layer in (ONE, ("conv", ((UNIT,),), (0,), 1), ("clamp", -1, 1), ("max", 1), ("mean", 1), ("sum", (), ()),
                      ("fork", (), ())):
            self.assertEqual(crossing((layer,), ((-5, 5),)), 0)
        self.assertEqual(crossing((), ((-5, 5),)), 0)

    def test_several_layers(self):
        layers = (RELU, ("dense", ((-UNIT,), (UNIT,)), (1, -1)), RELU, ("dense", ((UNIT, UNIT),), (-1,)), RELU)
        self.assertEqual(crossing(layers, ((-5, 5),)), 4)
        self.assertEqual(crossing(layers[:1], ((-5, 5),)), 1)
        self.assertEqual(crossing(layers, ((0, 5),)), 3)
        self.assertEqual(crossing(layers, ((-5, 0),)), 0)

    def test_both_branches(self):
        for kind in ("sum", "fork"):
            self.assertEqual(crossing(((kind, (RELU,), ()),), ((-5, 5), (-1, 0))), 1)
            self.assertEqual(crossing(((kind, (), (RELU,)),), ((-5, 5), (-1, 0))), 1)
            self.assertEqual(crossing(((kind, (RELU,), (RELU,)),), ((-5, 5), (-1, 0))), 2)
            layers = (("clamp", -5, 5), (kind, (RELU, ("clamp", 0, 1)), (DOUBLE, RELU, RELU)))
            self.assertEqual(crossing(layers + (("dense", ((-UNIT,) * (1 + (kind == "fork")),), (1,)), RELU),
                                      ((-5, 5),)), 3)


class SomeNets(unittest.TestCase):
    def cases(self, seed, many, most_points):
        """Random nets with boxes, lines behind them and choices."""
        rng = random.Random(seed)
        for _ in range(many):
            most = rng.choice((2 * UNIT, 2 * UNIT, MOST_WEIGHT))
            net = some_net(rng, most=most)
            box = some_box(rng, net[1], rng.choice((9, 8 * UNIT, TOP)), most_points)
            factors = tuple(rng.choice((0, 1, -1, rng.randint(-9, 9))) for _ in range(length_of(net)))
            many_choices = crossing(net[2], box)
            self.assertEqual(many_choices, reference.crossing(net[2], box))
            choices = [rng.randint(0, 1) for _ in range(many_choices)]
            yield net, box, (rng.randint(1, 9), factors, rng.randint(-9, 9)), choices

    def test_as_the_document_words_it(self):
        for many in (64, 10 ** 5, 10 ** 9):
            for net, box, line, choices in self.cases(many, 400, many):
                self.assertEqual(line_back(net[2], box, line, choices),
                                 reference.line_back(net[2], box, line, choices))

    def test_no_point_is_below_its_line(self):
        for net, box, line, choices in self.cases(45, 400, 64):
            line = (1, line[1], 0)
            scale, factors, constant = line_back(net[2], box, line, choices)
            self.assertGreaterEqual(scale, 1)
            for point in all_points(box):
                told = sum(factor * signal for factor, signal in zip(line[1], outputs(net, point)))
                below = sum(factor * signal for factor, signal in zip(factors, point)) + constant
                self.assertGreaterEqual(scale * told, below)

    def test_within_a_longer_net(self):
        rng = random.Random(46)
        for _ in range(200):
            first, length = some_layers(rng, 3, PLAIN_KINDS + BRANCHED_KINDS, 2)
            second, given = some_layers(rng, length, PLAIN_KINDS + BRANCHED_KINDS, 2)
            box = some_box(rng, 3, 8 * UNIT, 10 ** 6)
            many = crossing(first, box)
            between = ranges_of(first, box)[-1]
            choices = [rng.randint(0, 1) for _ in range(many + crossing(second, between))]
            line = (1, tuple(rng.randint(-3, 3) for _ in range(given)), 0)
            middle = line_back(second, between, line, choices[many:])
            self.assertEqual(line_back(first + second, box, line, choices),
                             line_back(first, box, middle, choices[:many]))

    def test_the_arguments_stay(self):
        rng = random.Random(47)
        for kind in PLAIN_KINDS + BRANCHED_KINDS:
            layers = (some_layer(rng, 4, kind), RELU)
            ranges = ((-3, 5), (1, 2), (-TOP, TOP), (0, 0))
            factors = (1,) * len(ranges_of(layers, ranges)[-1])
            choices = [1] * crossing(layers, ranges)
            before = copy.deepcopy((layers, ranges, factors, choices))
            line_back(layers, ranges, (1, factors, 0), choices)
            crossing(layers, ranges)
            self.assertEqual((layers, ranges, factors, choices), before)

    def test_kinds(self):
        told = line_back((DOUBLE, RELU, ("fork", (), ())), ((-3, 5),), (1, (1, -2), 3), [1])
        self.assertIs(type(told), tuple)
        self.assertEqual([type(part) for part in told], [int, tuple, int])
        self.assertEqual([type(part) for part in told[1]], [int])


if __name__ == "__main__":
    unittest.main()
