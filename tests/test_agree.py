"""Promises a1 and a2: whether two nets agree, and pruning."""

import copy
import random
import unittest

from tests import reference
from tests.helper import BRANCHED_KINDS, all_points, some_box, some_layer, some_layers, some_numbers, some_rows
from tests.test_judge import NO_BOXES_OF_TWO
from wholenet.agree import agree, joined, prune
from wholenet.decide import decide
from wholenet.errors import BadBox, BadDemand, BadNet
from wholenet.judge import judge
from wholenet.nets import check_net, length_of, outputs
from wholenet.numbers import MOST_SIGNAL, UNIT

TOP = MOST_SIGNAL
FAR = 2 ** 40
RELU = ("relu",)
ONE = ("net", 1, ())
TWO = ("net", 2, ())
KINK = ("net", 1, (RELU,))
EMPTY_SUM = ("net", 1, (("sum", (), ()),))
EMPTY_FORK = ("net", 1, (("fork", (), ()),))


def dense(*rows, biases=None):
    return ("dense", rows, biases or (0,) * len(rows))


def wide(inputs, kernels):
    """A net with one input more than a kernel has, so that it gives many signals: kernels times inputs."""
    return ("net", inputs, (("conv", ((UNIT,),) * kernels, (0,) * kernels, 1),))


class NetCase(unittest.TestCase):
    def refused(self, reason, first, second):
        for function in (lambda: joined(first, second), lambda: agree(first, second, ((0, 1),) * first[1], 0),
                         lambda: agree(first, second, (), 0), lambda: agree(first, second, None, -1, 1)):
            with self.assertRaises(BadNet) as caught:
                function()
            self.assertEqual((caught.exception.line, caught.exception.reason), (0, reason))


class Joined(NetCase):
    def test_the_layers_in_a_fork(self):
        first = ("net", 2, (dense((1, 2), (3, 4)), RELU))
        for one, other in ((first, TWO), (TWO, first), (first, first), (TWO, TWO)):
            told = joined(one, other)
            self.assertEqual(told, ("net", 2, (("fork", one[2], other[2]),)))
            check_net(told)
            for x in ((5, -6), (0, 0), (TOP, -TOP)):
                self.assertEqual(outputs(told, x), outputs(one, x) + outputs(other, x))

    def test_twelve_layers(self):
        net = ("net", 3, (RELU,) * 12)
        check_net(joined(net, net))

    def test_nets_that_are_unlike(self):
        three = ("net", 2, (dense((1, 2), (3, 4), (5, 6)),))
        for first, second in ((ONE, TWO), (TWO, ("net", 2, (("max", 2),))), (TWO, three),
                              (("net", 4, (("max", 2),)), TWO), (("net", 1, (dense((1,), (2,)),)), TWO)):
            self.refused("nets are unlike", first, second)
            self.refused("nets are unlike", second, first)

    def test_nets_that_have_branches(self):
        for first, second in ((EMPTY_SUM, ONE), (EMPTY_SUM, EMPTY_SUM), (EMPTY_FORK, ("net", 1, (dense((1,), (2,)),))),
                              (("net", 1, (RELU, ("sum", (RELU,), ()), RELU)), KINK)):
            self.refused("nets have branches", first, second)
            self.refused("nets have branches", second, first)

    def test_nets_that_are_unlike_are_told_ahead_of_branches(self):
        for first, second in ((EMPTY_SUM, TWO), (EMPTY_FORK, ONE), (EMPTY_FORK, EMPTY_SUM), (EMPTY_FORK, KINK)):
            self.refused("nets are unlike", first, second)
            self.refused("nets are unlike", second, first)

    def test_more_than_64_signals(self):
        for inputs, kernels in ((16, 2), (8, 4), (2, 4), (16, 1)):
            check_net(joined(wide(inputs, kernels), wide(inputs, kernels)))
        for inputs, kernels in ((16, 3), (11, 3), (9, 4), (16, 4)):
            check_net(wide(inputs, kernels))
            self.refused("not a net", wide(inputs, kernels), wide(inputs, kernels))

    def test_the_order_of_the_reasons(self):
        many = wide(16, 3)
        branches = ("net", 16, many[2] + (("sum", (), ()),))
        self.refused("nets have branches", many, branches)
        self.refused("nets have branches", branches, branches)
        self.refused("nets are unlike", many, wide(16, 4))
        self.refused("nets are unlike", branches, wide(16, 4))


class Agree(NetCase):
    def test_the_example_of_the_document(self):
        self.assertEqual(agree(ONE, KINK, ((-2, 2),), 1), ("fails", (-2,)))

    def test_just_at_a_distance(self):
        for first, second in ((ONE, KINK), (KINK, ONE)):
            for distance, told in ((0, "fails"), (1, "fails"), (2, "holds"), (3, "holds"), (FAR, "holds")):
                self.assertEqual(agree(first, second, ((-2, 2),), distance)[0], told)
        self.assertEqual(agree(ONE, KINK, ((0, TOP),), 0)[0], "holds")
        self.assertEqual(agree(ONE, KINK, ((-TOP, TOP),), TOP)[0], "holds")
        self.assertEqual(agree(ONE, KINK, ((-TOP, TOP),), TOP - 1)[0], "fails")

    def test_every_output(self):
        nets = [("net", 2, (dense((UNIT, 0), (0, UNIT), biases=biases),)) for biases in ((0, 0), (0, 3), (3, 0), (3, -3))]
        for second in nets[1:]:
            for distance in range(6):
                told = agree(nets[0], second, ((-5, 5), (-5, 5)), distance)
                self.assertEqual(told[0], "holds" if distance >= 3 else "fails")

    def test_as_deciding_tells(self):
        rng = random.Random(91)
        for _ in range(120):
            inputs = rng.randint(1, 3)
            layers, given = some_layers(rng, inputs, ("dense", "relu", "clamp", "conv"), 3)
            others, length = some_layers(rng, inputs, ("dense", "relu", "clamp", "conv"), 3)
            others += (("dense", some_rows(rng, given, length, UNIT), some_numbers(rng, given, 99)),)
            first, second = ("net", inputs, layers), ("net", inputs, others)
            box = some_box(rng, inputs, 8 * UNIT)
            gaps = [max(abs(a - b) for a, b in zip(outputs(first, x), outputs(second, x))) for x in all_points(box)]
            for distance in (max(gaps) - 1, max(gaps), max(gaps) + 1):
                if distance >= 0:
                    told = agree(first, second, box, distance)
                    self.assertEqual(told, decide(joined(first, second), box, ("near", distance)))
                    self.assertEqual(told[0], "holds" if distance >= max(gaps) else "fails")
                    if told[0] == "holds":
                        self.assertIs(judge(joined(first, second), box, ("near", distance), told[1]), True)

    def test_fuel(self):
        first = ("net", 1, (dense((UNIT,)), dense((UNIT,))))
        second = ("net", 1, (dense((2 * UNIT,)), dense((UNIT // 2,))))
        self.assertEqual(agree(first, second, ((0, 65),), 0, 1), ("open",))
        self.assertEqual(agree(first, second, ((0, 65),), 0, fuel=2), ("open",))
        self.assertEqual(agree(first, second, ((0, 65),), 0, 3)[0], "holds")
        self.assertEqual(agree(first, second, ((0, 65),), 0)[0], "holds")

    def test_boxes_and_demands_that_do_not_fit(self):
        for box in NO_BOXES_OF_TWO:
            for distance in (0, -1, FAR + 1, True):
                with self.assertRaises(BadBox):
                    agree(TWO, TWO, box, distance)
        for distance in (-1, FAR + 1, True, False, None, "0", (), (0,)):
            with self.assertRaises(BadDemand):
                agree(TWO, TWO, ((0, 1), (0, 1)), distance)


class Prune(unittest.TestCase):
    def pruned(self, net, box, layers):
        """Pruning leaves these layers, and changes nothing at the points of the box."""
        told = prune(net, box)
        self.assertEqual(told, ("net", net[1], layers))
        check_net(told)
        self.same(net, told, box)

    def same(self, net, told, box):
        for point in all_points(tuple((max(low, high - 9), high) for low, high in box)):
            self.assertEqual(outputs(told, point), outputs(net, point))

    def test_a_high_end_of_just_0_and_just_above(self):
        first = dense((UNIT,), (-UNIT,), (UNIT,), biases=(-5, -3, -6))
        second = dense((1 * UNIT, 2 * UNIT, 3 * UNIT), (4, 5, 6), biases=(7, 8))
        net = ("net", 1, (first, RELU, second))
        # The high ends are high - 5, -low - 3 and high - 6.
        kept = {
            (-3, 6): [0], (-3, 7): [0, 2], (-4, 5): [1], (-4, 6): [0, 1], (-4, 7): [0, 1, 2], (-9, 0): [1],
        }
        for pair, indices in kept.items():
            layers = (
                dense(*[first[1][at] for at in indices], biases=tuple(first[2][at] for at in indices)),
                RELU,
                dense(*[tuple(row[at] for at in indices) for row in second[1]], biases=second[2]),
            )
            self.pruned(net, (pair,), layers)

    def test_all_that_would_go(self):
        first = dense((UNIT,), (-UNIT,), (UNIT,), biases=(-5, -3, -6))
        second = dense((1, 2, 3), (4, 5, 6), biases=(7, 8))
        layers = (dense((UNIT,), biases=(-5,)), RELU, dense((1,), (4,), biases=(7, 8)))
        for pair in ((-3, 5), (0, 0), (-1, 2)):
            self.pruned(("net", 1, (first, RELU, second)), (pair,), layers)

    def test_one_output(self):
        layers = (dense((UNIT,), biases=(-5,)), RELU, dense((1,), (4,), biases=(7, 8)))
        for pair in ((-3, 5), (-3, 6)):
            self.pruned(("net", 1, layers), (pair,), layers)

    def test_the_range_is_that_behind_the_rounding(self):
        # Half of 1 is rounded to 0, half of 3 to 2.
        layers = (dense((UNIT // 2,), (UNIT,)), RELU, dense((UNIT, UNIT)))
        self.pruned(("net", 1, layers), ((-1, 1),), (dense((UNIT,)), RELU, dense((UNIT,))))
        self.pruned(("net", 1, layers), ((-1, 2),), layers)

    def test_several_layers_in_a_row(self):
        layers = (dense((UNIT,), (-UNIT,)), RELU, dense((UNIT, UNIT), (UNIT, -UNIT), (-UNIT, 0), biases=(0, 0, 0)), RELU,
                  dense((1, 2, 3), (4, 5, 6)))
        net = ("net", 1, layers)
        # At inputs from 1 on, the second signal goes, and then the third one of the next layer.
        self.pruned(net, ((1, 5),), (dense((UNIT,)), RELU, dense((UNIT,), (UNIT,)), RELU, dense((1, 2), (4, 5))))
        self.pruned(net, ((-5, -1),), (dense((-UNIT,)), RELU, dense((UNIT,)), RELU, dense((1,), (4,))))
        self.pruned(net, ((-5, 5),), layers[:2] + (dense((UNIT, UNIT), (UNIT, -UNIT)), RELU, dense((1, 2), (4, 5))))

    def test_layers_that_are_left_as_they_are(self):
        gone = dense((UNIT,), (-UNIT,), biases=(0, -50))
        last = dense((UNIT, UNIT))
        conv = ("conv", ((UNIT, UNIT),), (0,), 1)
        box = ((-9, 9),)
        for layers in ((gone,), (gone, last), (gone, RELU), (gone, RELU, RELU, last), (gone, ("clamp", 0, 9), last),
                       (gone, RELU, conv), (gone, ("max", 2), RELU, dense((UNIT,))), (gone, RELU, ("max", 1), last),
                       (gone, last, RELU), (RELU, gone, ("mean", 1), RELU, last), (gone, RELU, ("sum", (last,), (last,))),
                       (gone, ("fork", (RELU,), ()), dense((1, 2, 3, 4))), (("fork", (gone,), ()), RELU, dense((1, 2, 3))),
                       (("conv", ((UNIT,), (-UNIT,)), (0, -50), 1), RELU, last), ()):
            self.pruned(("net", 1, layers), box, layers)

    def test_layers_within_branches(self):
        gone = (dense((UNIT,), (-UNIT,), biases=(0, -50)), RELU, dense((UNIT, UNIT)))
        kept = (dense((UNIT,)), RELU, dense((UNIT,)))
        for kind in ("sum", "fork"):
            layers = ((kind, gone, gone),)
            self.pruned(("net", 1, layers), ((-9, 9),), layers)
            behind = 1 if kind == "sum" else 2
            more = (dense((UNIT,) * behind, (-UNIT,) * behind, biases=(0, -500)), RELU, dense((3, 4)))
            less = (dense((UNIT,) * behind), RELU, dense((3,)))
            self.pruned(("net", 1, layers + more), ((-9, 9),), layers + less)
            self.pruned(("net", 1, gone + layers), ((-9, 9),), kept + layers)

    def test_other_layers_around(self):
        gone = (dense((UNIT, 0), (0, UNIT), biases=(0, -50)), RELU, dense((UNIT, UNIT), (UNIT, 2 * UNIT)))
        kept = (dense((UNIT, 0)), RELU, dense((UNIT,), (UNIT,)))
        self.pruned(("net", 2, (("clamp", -40, 40),) + gone + (("max", 2), RELU)), ((-60, 60), (-9, TOP)),
                    (("clamp", -40, 40),) + kept + (("max", 2), RELU))
        self.pruned(("net", 2, gone + (RELU, ("clamp", 0, 9)) + gone), ((-9, 9), (-9, 9)),
                    kept + (RELU, ("clamp", 0, 9)) + kept)

    def test_clamped_ends(self):
        layers = (dense((256 * UNIT,), (-256 * UNIT,)), RELU, dense((1, 2)))
        self.pruned(("net", 1, layers), ((0, TOP),), (dense((256 * UNIT,)), RELU, dense((1,))))
        self.pruned(("net", 1, layers), ((-TOP, TOP),), layers)

    def test_what_is_given_stays_the_same(self):
        rng = random.Random(92)
        smaller = 0
        for _ in range(300):
            inputs = rng.randint(1, 3)
            layers, n = (), inputs
            for _ in range(rng.randint(1, 4)):
                more = [some_layer(rng, n, "dense")]
                n = len(more[0][1])
                if rng.random() < 0.8:
                    more.append(RELU)
                if rng.random() < 0.2:
                    more.append(some_layer(rng, n, rng.choice(BRANCHED_KINDS + ("clamp", "max", "mean"))))
                layers += tuple(more)
                n = length_of(("net", inputs, layers))
            net = ("net", inputs, layers)
            box = some_box(rng, inputs, 8 * UNIT)
            told = prune(net, box)
            check_net(told)
            self.assertEqual([layer[0] for layer in told[2]], [layer[0] for layer in layers])
            for point in all_points(box):
                self.assertEqual(outputs(told, point), outputs(net, point))
            # Nothing is left that could go, but where all would.
            rows = reference.ranges_of(told[2], box)
            for at in range(len(layers) - 2):
                if [layer[0] for layer in layers[at:at + 3]] == ["dense", "relu", "dense"]:
                    highs = [high for low, high in rows[at + 1]]
                    self.assertTrue(min(highs) > 0 or len(highs) == 1)
            smaller += told != net
            self.assertEqual(prune(told, box), told)
        self.assertGreater(smaller, 50)

    def test_boxes_that_do_not_fit(self):
        for box in NO_BOXES_OF_TWO:
            for net in (TWO, ("net", 2, (dense((1, 2)), RELU, dense((1,))))):
                with self.assertRaises(BadBox, msg=box):
                    prune(net, box)

    def test_the_arguments_stay(self):
        net = ("net", 1, (dense((UNIT,), (-UNIT,), biases=(0, -50)), RELU, dense((UNIT, UNIT))))
        things = (net, KINK, ((-9, 9),))
        before = copy.deepcopy(things)
        prune(net, ((-9, 9),))
        joined(net, KINK)
        agree(net, KINK, ((-9, 9),), 3)
        self.assertEqual(things, before)


if __name__ == "__main__":
    unittest.main()
