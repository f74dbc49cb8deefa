"""Promises t1 to t4: examples, speeds, batches and steps."""

import copy
import random
import unittest
from fractions import Fraction

from tests.helper import gradient_numbers, some_inputs, some_net, some_numbers, speed_numbers, weights, with_weights
from wholenet.gradients import net_gradients
from wholenet.losses import loss_of
from wholenet.nets import check_net, length_of, outputs
from wholenet.numbers import MOST_SIGNAL, MOST_WEIGHT, UNIT
from wholenet.training import batch_gradients, is_example, no_speeds, trained

TOP = MOST_SIGNAL
ONE = ("net", 1, (("dense", ((4096,),), (0,)),))
DENSE = ("dense", ((1, 2), (3, 4), (5, 6)), (7, 8, 9))
CONV = ("conv", ((1, 2, 3),), (4,), 2)


def clip(number):
    return max(-MOST_WEIGHT, min(MOST_WEIGHT, number))


class Speeds(unittest.TestCase):
    def test_each_kind(self):
        rest = (((0, 0), (0, 0), (0, 0)), (0, 0, 0))
        self.assertEqual(no_speeds(("net", 2, (DENSE,))), (rest,))
        self.assertEqual(no_speeds(("net", 3, (CONV,))), ((((0, 0, 0),), (0,)),))
        plain = (("relu",), ("clamp", 1, 2), ("max", 1), ("mean", 1))
        self.assertEqual(no_speeds(("net", 2, plain)), ((), (), (), ()))
        self.assertEqual(no_speeds(("net", 2, (("relu",), DENSE, CONV))), ((), rest, (((0, 0, 0),), (0,))))
        for kind in ("sum", "fork"):
            self.assertEqual(no_speeds(("net", 2, ((kind, (DENSE, ("relu",)), ()),))), (((rest, ()), ()),))
            self.assertEqual(no_speeds(("net", 2, ((kind, (), (("relu",), DENSE)),))), (((), ((), rest)),))
            self.assertEqual(no_speeds(("net", 2, ((kind, (), ()),))), (((), ()),))

    def test_without_layers(self):
        self.assertEqual(no_speeds(("net", 2, ())), ())


class Examples(unittest.TestCase):
    NET = ("net", 2, (DENSE,))

    def test_examples(self):
        for target in ((1, 2, 3), (TOP, -TOP, 0), 0, 1, 2):
            self.assertIs(is_example(self.NET, ((5, 6), target)), True)
        for inputs in ((TOP, -TOP), (-TOP, TOP), (0, 0)):
            self.assertIs(is_example(self.NET, (inputs, 0)), True)

    def test_inputs_that_are_none(self):
        for inputs in ((), (5,), (5, 6, 7), (TOP + 1, 0), (0, TOP + 1), (-TOP - 1, 0), (0, -TOP - 1), [5, 6], 5, None,
                       "56", (5, "6"), (5, None), (True, 0), (5, False), ((5,), 6), True):
            for target in (0, (1, 2, 3)):
                self.assertIs(is_example(self.NET, (inputs, target)), False, inputs)

    def test_targets_that_are_none(self):
        for target in (-1, 3, 4, TOP, True, False, None, "0", (), (1, 2), (1, 2, 3, 4), [1, 2, 3], (TOP + 1, 0, 0),
                       (0, 0, -TOP - 1), (1, 2, True), (1, 2, "3"), (1, 2, None), (1, 2, (3,)), (0,), "012"):
            self.assertIs(is_example(self.NET, ((5, 6), target)), False, target)

    def test_other_shapes(self):
        for thing in ((), ((5, 6),), ((5, 6), 0, 0), [(5, 6), 0], None, 5, "ab", True, ((5, 6), (1, 2, 3), ())):
            self.assertIs(is_example(self.NET, thing), False, thing)

    def test_as_many_as_the_net_gives(self):
        for net, many in ((("net", 1, ()), 1), (("net", 3, ()), 3), (("net", 4, (("max", 2),)), 2),
                          (("net", 2, (("fork", (), (DENSE,)),)), 5)):
            inputs = (0,) * net[1]
            self.assertTrue(is_example(net, (inputs, (0,) * many)))
            self.assertTrue(is_example(net, (inputs, many - 1)))
            self.assertFalse(is_example(net, (inputs, many)))
            self.assertFalse(is_example(net, (inputs, (0,) * (many + 1))))
            self.assertFalse(is_example(net, (inputs, (0,) * (many - 1))))
            self.assertFalse(is_example(net, (inputs + (0,), 0)))


class Batches(unittest.TestCase):
    EXAMPLES = (((10,), (30,)), ((-7,), (2,)), ((5,), 0))

    def test_one(self):
        told = (("dense", 1, ((-200,),), (-20,)),)
        self.assertEqual(batch_gradients(ONE, self.EXAMPLES, "squares", (0,)), told)
        told = (("dense", 1, ((63,),), (-9,)),)
        self.assertEqual(batch_gradients(ONE, self.EXAMPLES, "squares", (1,)), told)
        self.assertEqual(batch_gradients(ONE, self.EXAMPLES, "margins", (2,)), (("dense", 0, ((0,),), (0,)),))

    def test_repeated(self):
        told = (("dense", 1, ((-200 * 3 + 63 * 2,),), (-20 * 3 - 9 * 2,)),)
        for batch in ((0, 0, 0, 1, 1), (1, 0, 1, 0, 0), (0, 1, 0, 1, 0)):
            self.assertEqual(batch_gradients(ONE, self.EXAMPLES, "squares", batch), told)
        told = (("dense", 1, ((-200 * 64,),), (-20 * 64,)),)
        self.assertEqual(batch_gradients(ONE, self.EXAMPLES, "squares", (0,) * 64), told)

    def test_without_layers(self):
        self.assertEqual(batch_gradients(("net", 1, ()), self.EXAMPLES, "squares", (0, 1)), ())

    def test_in_the_shape_of_the_gradients_of_a_net(self):
        layers = (("clamp", 0, 9), ("sum", (("relu",), DENSE), (DENSE,)), ("fork", (), (CONV,)))
        net = ("net", 2, layers)
        check_net(net)
        examples = (((5, 6), (1, 2, 3, 4)), ((7, 8), (4, 3, 2, 1)), ((-9, 3), 2), ((1, 1), 0))
        for loss, batch in (("squares", (0, 1, 1)), ("margins", (2, 3, 2))):
            given = batch_gradients(net, examples, loss, batch)
            pairs = [loss_of(loss, outputs(net, examples[at][0]), examples[at][1])[1] for at in batch]
            parts = [net_gradients(net, examples[at][0], pair) for at, pair in zip(batch, pairs)]
            self.assertEqual(shape(given), shape(parts[0]))
            sums = [sum(number for number, _ in told) for told in zip(*[gradient_numbers(part) for part in parts])]
            self.assertEqual([number for number, _ in gradient_numbers(given)], sums)
            self.assertNotEqual(sums, [0] * len(sums))

    def test_the_order_has_no_effect(self):
        rng = random.Random(6)
        for _ in range(60):
            net = some_net(rng)
            examples = tuple((some_inputs(rng, net), some_numbers(rng, length_of(net), 9999)) for _ in range(4))
            batch = [rng.randrange(4) for _ in range(rng.randint(1, 6))]
            given = batch_gradients(net, examples, "squares", tuple(batch))
            rng.shuffle(batch)
            self.assertEqual(batch_gradients(net, examples, "squares", tuple(batch)), given)


def shape(gradients):
    """Gradients with 0 in place of each number, powers aside."""
    if isinstance(gradients, tuple) and len(gradients) == 4 and gradients[0] in ("dense", "conv"):
        return gradients[:2] + (tuple((0,) * len(row) for row in gradients[2]), (0,) * len(gradients[3]))
    if isinstance(gradients, tuple):
        return tuple(shape(part) for part in gradients)
    return gradients


class Steps(unittest.TestCase):
    def one(self, weight, bias, speeds, gradient, pace, told, moves):
        """A step of a net with one weight and one bias."""
        net = ("net", 1, (("dense", ((weight,),), (bias,)),))
        power, row, number = gradient
        given = trained(net, ((((speeds[0],),), (speeds[1],)),), (("dense", power, ((row,),), (number,)),), *pace, ())
        want = ("net", 1, (("dense", ((told[0],),), (told[1],)),)), ((((moves[0],),), (moves[1],)),)
        self.assertEqual(given, want)

    def test_the_example(self):
        gradients = batch_gradients(ONE, (((10,), (30,)),), "squares", (0,))
        self.assertEqual(trained(ONE, no_speeds(ONE), gradients, 1, 4096, 0, ()), (
            ("net", 1, (("dense", ((4096,),), (20,)),)), ((((0,),), (-20,)),)))

    def test_the_rate(self):
        number = 100 * UNIT ** 2
        self.one(7, 8, (0, 0), (1, number, 0), (1, UNIT, 0), (7 - 100 * UNIT, 8), (100 * UNIT, 0))
        self.one(7, 8, (0, 0), (1, number, 0), (1, 1, 0), (-93, 8), (100, 0))
        self.one(7, 8, (0, 0), (1, -number, 0), (1, 1, 0), (107, 8), (-100, 0))
        self.one(7, 8, (0, 0), (1, 0, 100 * UNIT), (1, 1, 0), (7, -92), (0, 100))
        self.one(7, 8, (0, 0), (0, 100 * UNIT, 100), (1, 1, 0), (-93, -92), (100, 100))
        self.one(7, 8, (0, 0), (3, 100 * UNIT ** 4, 50 * UNIT ** 3), (1, 1, 0), (-93, -42), (100, 50))

    def test_the_count(self):
        self.one(7, 8, (0, 0), (0, 100 * UNIT, 100), (4, 1, 0), (-18, -17), (25, 25))
        self.one(7, 8, (0, 0), (0, 100 * UNIT, 100), (64, 1, 0), (5, 6), (2, 2))

    def test_ties_go_to_the_even_integer(self):
        for number, told in ((1, 0), (3, 2), (5, 2), (-1, 0), (-3, -2), (-5, -2), (7, 4)):
            self.one(0, 0, (0, 0), (0, number * UNIT, number), (2, 1, 0), (-told, -told), (told, told))
            self.one(0, 0, (number, number), (0, 0, 0), (1, 1, UNIT // 2), (-told, -told), (told, told))

    def test_both_parts_are_rounded_by_themselves(self):
        self.one(0, 0, (1, 1), (0, UNIT, 1), (2, 1, UNIT // 2), (0, 0), (0, 0))
        self.one(0, 0, (3, 3), (0, 3 * UNIT, 3), (2, 1, UNIT // 2), (-4, -4), (4, 4))

    def test_the_drag(self):
        self.one(7, 8, (100, -60), (0, 0, 0), (1, UNIT, UNIT), (-93, 68), (100, -60))
        self.one(7, 8, (100, -60), (0, 0, 0), (1, UNIT, UNIT // 4), (-18, 23), (25, -15))
        self.one(7, 8, (100, -60), (0, 0, 0), (1, UNIT, 0), (7, 8), (0, 0))
        self.one(7, 8, (100, -60), (0, -70 * UNIT, 100), (1, 1, UNIT), (-23, -32), (30, 40))

    def test_the_drag_is_not_divided_by_the_count(self):
        self.one(7, 8, (100, -60), (0, 0, 0), (5, 1, UNIT), (-93, 68), (100, -60))

    def test_speeds_are_clamped(self):
        top = MOST_WEIGHT
        for sign in (1, -1):
            push = (0, sign * UNIT ** 3, sign * UNIT ** 2)
            self.one(0, 0, (0, 0), push, (1, UNIT, 0), (-sign * top, -sign * top), (sign * top, sign * top))
            self.one(sign * top, sign * 5, (sign * top, sign * top), (0, sign * UNIT, 0), (1, 1, UNIT),
                     (0, sign * (5 - top)), (sign * top, sign * top))
            edge = (sign * (top - 1), sign * (top - 1))
            self.one(0, 0, edge, (0, sign * UNIT, sign), (1, 1, UNIT), (-sign * top, -sign * top), (sign * top,) * 2)

    def test_weights_are_clamped(self):
        top = MOST_WEIGHT
        for sign in (1, -1):
            edge = (sign * (top - 5), sign * (top - 6))
            self.one(*edge, (-6 * sign, -6 * sign), (0, 0, 0), (1, 0, UNIT), (sign * top, sign * top),
                     (-6 * sign, -6 * sign))
            self.one(-sign * top, -sign * top, (sign, 0), (0, 0, 0), (1, 0, UNIT), (-sign * top, -sign * top), (sign, 0))

    def test_rate_and_drag_0_change_no_weight(self):
        rng = random.Random(8)
        for _ in range(40):
            net = some_net(rng)
            examples = ((some_inputs(rng, net), some_numbers(rng, length_of(net), 9999)),)
            gradients = batch_gradients(net, examples, "squares", (0,))
            speeds = trained(net, no_speeds(net), gradients, 1, UNIT, 0, ())[1]
            self.assertEqual(trained(net, speeds, gradients, 1, 0, 0, ()), (net, no_speeds(net)))


class Layers(unittest.TestCase):
    NET = ("net", 3, (CONV, ("relu",), ("fork", (("dense", ((9,), (8,)), (7, 6)), ("clamp", -9, 9)), (("max", 1),)),
                      ("sum", (), (("relu",), ("dense", ((1, 2, 3),) * 3, (4, 5, 6)))), ("mean", 1)))
    SPEEDS = (
        (((10, 20, 30),), (40,)),
        (),
        (((((50,), (60,)), (70, 80)), ()), ((),)),
        ((), ((), (((1, 2, 3), (4, 5, 6), (7, 8, 9)), (10, 11, 12)))),
        (),
    )
    GRADIENTS = (
        ("conv", 0, ((UNIT, 2 * UNIT, 3 * UNIT),), (4,)),
        (),
        ("fork", (("dense", 1, ((5 * UNIT ** 2,), (6 * UNIT ** 2,)), (7 * UNIT, 8 * UNIT)), ()), ((),)),
        ("sum", (), ((), ("dense", 0, ((UNIT, 0, 0), (0, 2 * UNIT, 0), (0, 0, 3 * UNIT)), (1, 2, 3)))),
        (),
    )

    def test_every_kind(self):
        check_net(self.NET)
        net, speeds = trained(self.NET, self.SPEEDS, self.GRADIENTS, 1, 1, UNIT, ())
        self.assertEqual(speeds, (
            (((11, 22, 33),), (44,)),
            (),
            (((((55,), (66,)), (77, 88)), ()), ((),)),
            ((), ((), (((2, 2, 3), (4, 7, 6), (7, 8, 12)), (11, 13, 15)))),
            (),
        ))
        self.assertEqual(net, ("net", 3, (
            ("conv", ((-10, -20, -30),), (-40,), 2),
            ("relu",),
            ("fork", (("dense", ((-46,), (-58,)), (-70, -82)), ("clamp", -9, 9)), (("max", 1),)),
            ("sum", (), (("relu",), ("dense", ((-1, 0, 0), (-3, -5, -3), (-6, -6, -9)), (-7, -8, -9)))),
            ("mean", 1),
        )))

    def test_frozen_layers(self):
        free, moves = trained(self.NET, self.SPEEDS, self.GRADIENTS, 1, 1, UNIT, ())
        rest = no_speeds(self.NET)
        for frozen in ((0,), (1,), (2,), (3,), (4,), (0, 2), (0, 1, 2, 3), (0, 1, 2, 3, 4)):
            net, speeds = trained(self.NET, self.SPEEDS, self.GRADIENTS, 1, 1, UNIT, frozen)
            for at in range(5):
                self.assertEqual(net[2][at], (self.NET if at in frozen else free)[2][at])
                self.assertEqual(speeds[at], (rest if at in frozen else moves)[at])

    def test_frozen_counts_for_layers_of_the_net_alone(self):
        """The index 0 does not freeze the first layer of a branch."""
        net, speeds = trained(self.NET, self.SPEEDS, self.GRADIENTS, 1, 1, UNIT, (0,))
        self.assertEqual(net[2][2][1][0], ("dense", ((-46,), (-58,)), (-70, -82)))
        net, speeds = trained(self.NET, self.SPEEDS, self.GRADIENTS, 1, 1, UNIT, (1,))
        self.assertEqual(net[2][3][2][1][2], (-7, -8, -9))

    def test_nothing_that_is_handed_in_is_changed(self):
        handed = copy.deepcopy((self.NET, self.SPEEDS, self.GRADIENTS))
        trained(self.NET, self.SPEEDS, self.GRADIENTS, 1, 1, UNIT, (1,))
        self.assertEqual((self.NET, self.SPEEDS, self.GRADIENTS), handed)


class Random(unittest.TestCase):
    def test_steps_number_by_number(self):
        rng = random.Random(9)
        for _ in range(80):
            net, examples = self.some_task(rng)
            speeds = no_speeds(net)
            for _ in range(3):
                loss = rng.choice(("squares", "margins"))
                batch = tuple(rng.randrange(3) + 3 * (loss == "margins") for _ in range(rng.randint(1, 5)))
                rate, drag = rng.choice((0, 1, 100, UNIT)), rng.choice((0, 1, 1000, 3900, UNIT))
                gradients = batch_gradients(net, examples, loss, batch)
                moves = []
                for speed, (number, power) in zip(speed_numbers(net[2], speeds), gradient_numbers(gradients)):
                    push = round(Fraction(rate * number, len(batch) * UNIT ** power))
                    moves.append(clip(round(Fraction(drag * speed, UNIT)) + push))
                told = [clip(weight - move) for weight, move in zip(weights(net[2]), moves)]
                want = with_weights(net[2], iter(told))
                net, speeds = trained(net, speeds, gradients, len(batch), rate, drag, ())
                self.assertEqual(speed_numbers(net[2], speeds), moves)
                self.assertEqual(net, ("net", net[1], want))
                check_net(net)

    def some_task(self, rng):
        net = some_net(rng)
        n = length_of(net)
        squares = tuple((some_inputs(rng, net), some_numbers(rng, n, 9999)) for _ in range(3))
        return net, squares + tuple((some_inputs(rng, net), rng.randrange(n)) for _ in range(3))

    def test_training_lowers_the_loss(self):
        net = ("net", 2, (("dense", ((100, -50), (30, 80)), (0, 0)), ("relu",), ("dense", ((2000, 1000),), (0,))))
        examples = tuple(((a * UNIT, b * UNIT), ((a + b) * UNIT,)) for a in (0, 1) for b in (0, 1))
        speeds, losses = no_speeds(net), []
        for _ in range(60):
            losses.append(sum(loss_of("squares", outputs(net, x), target)[0] for x, target in examples))
            gradients = batch_gradients(net, examples, "squares", (0, 1, 2, 3))
            net, speeds = trained(net, speeds, gradients, 4, UNIT // 8, UNIT // 2, ())
        self.assertLess(losses[-1] * 10, losses[0])


if __name__ == "__main__":
    unittest.main()
