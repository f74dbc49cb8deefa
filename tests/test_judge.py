"""Promises c4, c5, j2, j3, j5 and j6: demands, boxes, and which papers hold."""

import copy
import itertools
import random
import unittest

from tests import reference
from tests.helper import all_points, some_box, some_net
from wholenet.errors import BadBox, BadDemand
from wholenet.judge import judge, meets, parts_of
from wholenet.nets import class_of, length_of, outputs
from wholenet.numbers import MOST_SIGNAL, MOST_WEIGHT, UNIT

TOP = MOST_SIGNAL
FAR = 2 ** 40
RELU = ("relu",)
PLAIN = ("plain",)
POINTS = ("points",)
ONE = ("net", 1, ())
TWO = ("net", 2, ())
KINK = ("net", 1, (RELU,))

NO_DEMANDS_OF_TWO = (
    (), (1,), "class", "least", "near", 5, None, True, [], ["class", 0], ["least", (1, 1), 0], ["near", 0],
    ("class",), ("least",), ("near",), ("class", 0, 0), ("near", 0, 0), ("least", (1, 1)), ("least", (1, 1), 0, 0),
    ("most", (1, 1), 0), ("Class", 0), ("far", 0), (("class",), 0), (0, 0), ("", 0), (None, 0),
    ("class", -1), ("class", 2), ("class", True), ("class", False), ("class", "0"), ("class", (0,)), ("class", None),
    ("near", -1), ("near", FAR + 1), ("near", True), ("near", False), ("near", "1"), ("near", (1,)), ("near", None),
    ("least", (), 0), ("least", (1,), 0), ("least", (1, 1, 1), 0), ("least", [1, 1], 0), ("least", "11", 0),
    ("least", 1, 0), ("least", None, 0), ("least", (1, True), 0), ("least", (False, 1), 0), ("least", (1, "1"), 0),
    ("least", (1, (1,)), 0), ("least", (1, None), 0), ("least", (FAR + 1, 0), 0), ("least", (0, -FAR - 1), 0),
    ("least", (1, 1), FAR + 1), ("least", (1, 1), -FAR - 1), ("least", (1, 1), True), ("least", (1, 1), False),
    ("least", (1, 1), "0"), ("least", (1, 1), (0,)), ("least", (1, 1), None), ("least", 0, (1, 1)),
)

DEMANDS_OF_TWO = (
    ("class", 0), ("class", 1), ("near", 0), ("near", 1), ("near", FAR), ("least", (1, 1), 0), ("least", (0, 0), 0),
    ("least", (FAR, -FAR), FAR), ("least", (-FAR, FAR), -FAR),
)

NO_BOXES_OF_TWO = (
    (), ((0, 1),), ((0, 1), (0, 1), (0, 1)), ((0, 1), (1, 0)), ((1, 0), (0, 1)), ((0, TOP + 1), (0, 0)),
    ((0, 0), (-TOP - 1, 0)), ((TOP + 1, TOP + 1), (0, 0)), ((0, 0), (-TOP - 1, -TOP - 1)), ((True, 1), (0, 1)),
    ((0, True), (0, 1)), ((0, 1), (False, 1)), ((0, 1), (0, False)), [(0, 1), (0, 1)], ([0, 1], (0, 1)),
    ((0, 1), [0, 1]), ((0, 1), (0,)), ((0, 1), (0, 1, 2)), ((0, 1), ()), ((0, 1), 5), ((0, 1), None), ((0, 1), "01"),
    ((0, 1), ("0", 1)), ((0, 1), (0, "1")), ((0, 1), (None, 1)), ((0, 1), ((0,), 1)), (0, 1), "ab", None, 5, True,
)

# Anything that a paper may be made of; none of these holds.
NO_PAPERS = (
    (), "", "plain", "points", 0, 1, ("plain", 0), ("plain", ()), (("plain",),), ("points", 0), ("points", ()),
    ("lines",), ("lines", (), ()), ("Plain",), ("split",), ("split", 0, 0, PLAIN), ("split", 0, 0, PLAIN, PLAIN, 0),
    ("halves", 0, 0, PLAIN, PLAIN), (0,), ("",), ("plain", "plain"), ("p",), ("lines", "lines"), ("lines", 0),
    ("lines", ""), ("split", 0, 0, "plain", "plain"), ("split", 0, 0, (), ()), ((), ()), ((((),),),),
)


class Parts(unittest.TestCase):
    def test_least(self):
        self.assertEqual(parts_of(TWO, ("least", (3, -4), 5)), [((3, -4), 5)])
        self.assertEqual(parts_of(ONE, ("least", (0,), -5)), [((0,), -5)])

    def test_class(self):
        self.assertEqual(parts_of(TWO, ("class", 1)), [((-1, 1), 1)])
        self.assertEqual(parts_of(TWO, ("class", 0)), [((1, -1), 0)])
        self.assertEqual(parts_of(("net", 4, ()), ("class", 2)),
                         [((-1, 0, 1, 0), 1), ((0, -1, 1, 0), 1), ((0, 0, 1, -1), 0)])
        self.assertEqual(parts_of(ONE, ("class", 0)), [])

    def test_near(self):
        self.assertEqual(parts_of(TWO, ("near", 3)), [((1, -1), -3), ((-1, 1), -3)])
        self.assertEqual(parts_of(("net", 4, ()), ("near", 0)),
                         [((1, 0, -1, 0), 0), ((-1, 0, 1, 0), 0), ((0, 1, 0, -1), 0), ((0, -1, 0, 1), 0)])

    def test_as_many_as_the_net_gives(self):
        net = ("net", 2, (("dense", ((1, 2), (3, 4), (5, 6)), (7, 8, 9)),))
        self.assertEqual(parts_of(net, ("class", 2)), [((-1, 0, 1), 1), ((0, -1, 1), 1)])
        self.assertEqual(parts_of(net, ("least", (1, 2, 3), 4)), [((1, 2, 3), 4)])
        for demand in (("class", 3), ("least", (1, 2), 3), ("near", 5)):
            with self.assertRaises(BadDemand):
                parts_of(net, demand)

    def test_an_odd_number_of_outputs(self):
        for inputs in (1, 3, 15):
            for distance in (0, 1, FAR):
                with self.assertRaises(BadDemand):
                    parts_of(("net", inputs, ()), ("near", distance))

    def test_kinds(self):
        for demand in DEMANDS_OF_TWO:
            told = parts_of(TWO, demand)
            self.assertIs(type(told), list)
            for part in told:
                self.assertEqual((type(part), type(part[0]), type(part[1])), (tuple, tuple, int))


class Demands(unittest.TestCase):
    def test_demands_that_do_not_fit(self):
        for demand in NO_DEMANDS_OF_TWO:
            with self.assertRaises(BadDemand, msg=demand):
                parts_of(TWO, demand)
            with self.assertRaises(BadDemand, msg=demand):
                meets(TWO, (0, 0), demand)

    def test_demands_that_fit(self):
        for demand in DEMANDS_OF_TWO:
            self.assertIs(type(parts_of(TWO, demand)), list)
            self.assertIn(meets(TWO, (0, 0), demand), (True, False))

    def test_meets_least(self):
        demand = ("least", (2, -3), 5)
        for inputs, told in (((4, 1), True), ((3, 0), True), ((4, 2), False), ((2, 0), False), ((-2, -3), True)):
            self.assertIs(meets(TWO, inputs, demand), told)

    def test_meets_class(self):
        net = ("net", 3, ())
        for inputs in itertools.product((-1, 0, 1), repeat=3):
            for k in range(3):
                self.assertIs(meets(net, inputs, ("class", k)), class_of(inputs) == k)
        self.assertIs(meets(ONE, (-5,), ("class", 0)), True)

    def test_meets_near(self):
        net = ("net", 4, ())
        for inputs, told in (((0, 0, 0, 0), True), ((2, 0, 0, 0), True), ((3, 0, 0, 0), False), ((0, 0, 2, 0), True),
                             ((0, 0, 3, 0), False), ((9, -2, 9, 0), True), ((9, -3, 9, 0), False),
                             ((9, 3, 9, 0), False), ((9, 7, 8, 9), True), ((9, 7, 8, 10), False)):
            self.assertIs(meets(net, inputs, ("near", 2)), told)
        self.assertIs(meets(TWO, (5, 5), ("near", 0)), True)
        self.assertIs(meets(TWO, (5, 6), ("near", 0)), False)

    def test_meets_looks_at_what_the_net_gives(self):
        net = ("net", 1, (("dense", ((-UNIT,),), (0,)), RELU))
        self.assertIs(meets(net, (-3,), ("least", (1,), 3)), True)
        self.assertIs(meets(net, (3,), ("least", (1,), 1)), False)

    def test_at_the_ends_of_demands(self):
        self.assertIs(meets(TWO, (TOP, -TOP), ("least", (FAR, -FAR), FAR)), True)
        self.assertIs(meets(TWO, (0, 0), ("least", (FAR, FAR), 0)), True)
        self.assertIs(meets(TWO, (TOP, -TOP), ("near", FAR)), True)
        self.assertIs(meets(TWO, (TOP, -TOP), ("near", 2 * TOP)), True)
        self.assertIs(meets(TWO, (TOP, -TOP), ("near", 2 * TOP - 1)), False)


class Refusals(unittest.TestCase):
    FIT = ((0, 1), (-TOP, TOP))

    def test_boxes_that_do_not_fit(self):
        for box in NO_BOXES_OF_TWO:
            for demand in (("least", (0, 0), 0), ("class", 5), None, ("near", True)):
                for paper in (PLAIN, 0):
                    with self.assertRaises(BadBox, msg=box):
                        judge(TWO, box, demand, paper)

    def test_demands_that_do_not_fit(self):
        for demand in NO_DEMANDS_OF_TWO:
            for paper in (PLAIN, POINTS, ("lines", ()), ("split", 0, 0, PLAIN, PLAIN), 0, (), "x", ((),)):
                with self.assertRaises(BadDemand, msg=demand):
                    judge(TWO, self.FIT, demand, paper)

    def test_near_boxes_and_demands_are_let(self):
        for box in (self.FIT, ((-TOP, -TOP), (TOP, TOP)), ((0, 0), (0, 0)), ((-1, 0), (0, 1))):
            for demand in DEMANDS_OF_TWO:
                self.assertIn(judge(TWO, box, demand, PLAIN), (True, False))


class Plain(unittest.TestCase):
    def test_a_bound_one_higher(self):
        self.assertIs(judge(KINK, ((-3, 5),), ("least", (1,), 0), PLAIN), True)
        self.assertIs(judge(KINK, ((-3, 5),), ("least", (1,), 1), PLAIN), False)
        self.assertIs(judge(KINK, ((-3, 5),), ("least", (-1,), -5), PLAIN), True)
        self.assertIs(judge(KINK, ((-3, 5),), ("least", (-1,), -4), PLAIN), False)
        self.assertIs(judge(TWO, ((-3, 5), (1, 2)), ("least", (2, -3), -12), PLAIN), True)
        self.assertIs(judge(TWO, ((-3, 5), (1, 2)), ("least", (2, -3), -11), PLAIN), False)
        self.assertIs(judge(TWO, ((-3, 5), (1, 2)), ("least", (0, 0), 0), PLAIN), True)
        self.assertIs(judge(TWO, ((-3, 5), (1, 2)), ("least", (0, 0), 1), PLAIN), False)

    def test_every_part(self):
        box = ((4, 5), (1, 2), (4, 4))
        net = ("net", 3, ())
        self.assertIs(judge(net, box, ("class", 0), PLAIN), True)
        self.assertIs(judge(net, box[1:] + box[:1], ("class", 2), PLAIN), False)
        self.assertIs(judge(net, ((1, 2), (3, 3), (4, 5)), ("class", 2), PLAIN), True)
        self.assertIs(judge(net, ((1, 2), (4, 4), (4, 5)), ("class", 2), PLAIN), False)
        self.assertIs(judge(TWO, ((0, 2), (0, 2)), ("near", 2), PLAIN), True)
        self.assertIs(judge(TWO, ((0, 2), (0, 3)), ("near", 2), PLAIN), False)
        self.assertIs(judge(TWO, ((0, 3), (0, 2)), ("near", 2), PLAIN), False)

    def test_without_parts(self):
        for paper in (PLAIN, POINTS, ("lines", ()), ("split", 0, 0, PLAIN, POINTS)):
            self.assertIs(judge(ONE, ((-3, 5),), ("class", 0), paper), True)
        self.assertIs(judge(ONE, ((-3, 5),), ("class", 0), ("lines", (0,))), False)


class Lines(unittest.TestCase):
    # max(x, 0) - x, which is at least 0; by ranges it is only known to be at least -5.
    NET = ("net", 1, (("fork", (RELU,), ()),))
    BOX = ((-3, 5),)

    def test_a_bound_one_higher(self):
        for choice in (0, 1):
            self.assertIs(judge(KINK, self.BOX, ("least", (-1,), -5), ("lines", (choice,))), True)
            self.assertIs(judge(KINK, self.BOX, ("least", (-1,), -4), ("lines", (choice,))), False)
        self.assertIs(judge(self.NET, self.BOX, ("least", (1, -1), 0), PLAIN), False)
        self.assertIs(judge(self.NET, self.BOX, ("least", (1, -1), 0), ("lines", (1,))), True)
        self.assertIs(judge(self.NET, self.BOX, ("least", (1, -1), 1), ("lines", (1,))), False)
        self.assertIs(judge(self.NET, self.BOX, ("least", (1, -1), 0), ("lines", (0,))), False)
        self.assertIs(judge(self.NET, self.BOX, ("least", (1, -1), -5), ("lines", (0,))), True)
        self.assertIs(judge(self.NET, self.BOX, ("least", (1, -1), -4), ("lines", (0,))), False)

    def test_the_scale_is_taken_times_the_bound(self):
        net = ("net", 1, (("dense", ((UNIT,),), (0,)),))
        # UNIT * x - UNIT // 2 is at least UNIT * bound.
        self.assertIs(judge(net, ((2, 5),), ("least", (1,), 1), ("lines", ())), True)
        self.assertIs(judge(net, ((2, 5),), ("least", (1,), 2), ("lines", ())), False)
        self.assertIs(judge(net, ((2, 5),), ("least", (1,), 2), PLAIN), True)
        self.assertIs(judge(net, ((2, 5),), ("least", (2,), 3), ("lines", ())), True)
        self.assertIs(judge(net, ((2, 5),), ("least", (2,), 4), ("lines", ())), False)

    def test_just_at_the_bound(self):
        net = ("net", 2, (("mean", 2),))
        # 2 * mean is at least x + y - 1.
        self.assertIs(judge(net, ((1, 2), (4, 5)), ("least", (1,), 2), ("lines", ())), True)
        self.assertIs(judge(net, ((1, 2), (3, 5)), ("least", (1,), 2), ("lines", ())), False)

    def test_every_part(self):
        net = ("net", 1, (("fork", (RELU,), ()),))
        self.assertIs(judge(net, ((0, 9),), ("near", 0), ("lines", ())), True)
        self.assertIs(judge(net, ((-1, 9),), ("near", 1), ("lines", (1,))), True)
        self.assertIs(judge(net, ((-1, 9),), ("near", 0), ("lines", (1,))), False)
        self.assertIs(judge(net, ((-9, 9),), ("class", 0), ("lines", (1,))), True)
        self.assertIs(judge(net, ((-9, 9),), ("class", 1), ("lines", (1,))), False)

    def test_choices(self):
        net = ("net", 2, (RELU, ("dense", ((UNIT, UNIT),), (-1,)), RELU))
        box = ((-1, 1), (0, 2))
        demand = ("least", (1,), -99)
        for choices in itertools.product((0, 1), repeat=2):
            self.assertIs(judge(net, box, demand, ("lines", choices)), True)
        for choices in ((), (0,), (1,), (0, 0, 0), (1, 1, 1), (0, 2), (2, 0), (-1, 0), (0, -1), (True, 0), (0, False),
                        ("0", "1"), (0, "1"), (0, ()), ((0,), 1), "01", "", 0, 1, 2, ((0, 1),), ((), ())):
            self.assertIs(judge(net, box, demand, ("lines", choices)), False, choices)
        self.assertIs(judge(net, box, demand, ("lines", [0, 1])), False)
        self.assertIs(judge(net, box, demand, ("lines", None)), False)
        self.assertIs(judge(net, box, demand, ("lines", (0, None))), False)

    def test_choices_in_branches(self):
        net = ("net", 1, (("sum", (RELU,), (("dense", ((-UNIT,),), (0,)), RELU)),))
        # Both parts of the distance to 0 are at least 0.
        self.assertIs(judge(net, ((-4, 4),), ("least", (1,), 0), ("lines", (0, 0))), True)
        self.assertIs(judge(net, ((-4, 4),), ("least", (1,), 0), ("lines", (1, 0))), False)
        self.assertIs(judge(net, ((-4, 4),), ("least", (1,), 0), ("lines", (0, 0, 0))), False)

    def test_as_the_document_words_it(self):
        rng = random.Random(51)
        both = set()
        for case in range(600):
            net = some_net(rng)
            box = some_box(rng, net[1], rng.choice((9, 8 * UNIT)), 10 ** rng.randint(1, 6))
            choices = tuple(rng.randint(0, 1) for _ in range(reference.crossing(net[2], box)))
            factors = tuple(rng.randint(-3, 3) for _ in range(length_of(net)))
            scale, told, constant = reference.line_back(net[2], box, (1, factors, 0), choices)
            least = sum(factor * (low if factor >= 0 else high) for factor, (low, high) in zip(told, box)) + constant
            bound = least // scale
            self.assertIs(judge(net, box, ("least", factors, bound), ("lines", choices)), True)
            self.assertIs(judge(net, box, ("least", factors, bound + 1), ("lines", choices)), False)
            ranges = reference.ranges_of(net[2], box)[-1]
            least = sum(factor * (low if factor >= 0 else high) for factor, (low, high) in zip(factors, ranges))
            self.assertIs(judge(net, box, ("least", factors, least), PLAIN), True)
            self.assertIs(judge(net, box, ("least", factors, least + 1), PLAIN), False)
            both.add(bound > least)
            both.add(bound < least)
        self.assertEqual(both, {False, True})


class Points(unittest.TestCase):
    def test_each_point(self):
        # (x - 1) * (x - 1) is not what this gives, but it is 0 at 1 alone: max(x, 1) - min(x, 1).
        net = ("net", 1, (("fork", (("clamp", 1, 9),), (("clamp", -9, 1),)), ("dense", ((UNIT, -UNIT),), (0,))))
        self.assertIs(judge(net, ((2, 5),), ("least", (1,), 1), POINTS), True)
        self.assertIs(judge(net, ((-3, 0),), ("least", (1,), 1), POINTS), True)
        self.assertIs(judge(net, ((-3, 5),), ("least", (1,), 1), POINTS), False)
        self.assertIs(judge(net, ((1, 5),), ("least", (1,), 1), POINTS), False)
        self.assertIs(judge(net, ((-3, 1),), ("least", (1,), 1), POINTS), False)
        self.assertIs(judge(net, ((-3, 5),), ("least", (1,), 0), POINTS), True)
        self.assertIs(judge(KINK, ((-3, 5),), ("least", (1,), 1), POINTS), False)

    def test_at_most_64(self):
        for lengths in ((64,), (8, 8), (1, 64), (2, 32), (4, 4, 4), (2,) * 6, (1,) * 16, (9, 7), (5, 4, 3)):
            net = ("net", len(lengths), ())
            demand = ("least", (0,) * len(lengths), 0)
            for start in (-3, 0, TOP - 63, -TOP):
                box = tuple((start, start + length - 1) for length in lengths)
                self.assertIs(judge(net, box, demand, POINTS), True, box)
        for lengths in ((65,), (13, 5), (1, 65), (2, 33), (5, 13), (4, 4, 5), (2,) * 7, (11, 6), (2 * TOP,)):
            net = ("net", len(lengths), ())
            demand = ("least", (0,) * len(lengths), 0)
            box = tuple((-TOP, -TOP + length - 1) for length in lengths)
            self.assertIs(judge(net, box, demand, POINTS), False, box)
            self.assertIs(judge(net, box, demand, PLAIN), True, box)

    def test_every_part(self):
        self.assertIs(judge(TWO, ((0, 2), (0, 2)), ("near", 2), POINTS), True)
        self.assertIs(judge(TWO, ((0, 2), (0, 3)), ("near", 2), POINTS), False)
        self.assertIs(judge(TWO, ((0, 3), (0, 2)), ("near", 2), POINTS), False)
        self.assertIs(judge(TWO, ((-3, -3), (1, 5)), ("class", 1), POINTS), True)
        self.assertIs(judge(TWO, ((-3, 1), (1, 5)), ("class", 1), POINTS), False)


class Splits(unittest.TestCase):
    DEMAND = ("least", (1,), 0)

    def split(self, at, cut, box=((-3, 5),), left=PLAIN, right=PLAIN):
        net = ("net", len(box), ())
        return judge(net, box, ("least", (0,) * len(box), 0), ("split", at, cut, left, right))

    def test_cuts(self):
        for cut in range(-3, 5):
            self.assertIs(self.split(0, cut), True, cut)
        for cut in (-99, -4, 5, 6, 99, True, False, "0", (), (0,), -TOP, TOP):
            self.assertIs(self.split(0, cut), False, cut)
        for cut in (-1, 0, 1):
            self.assertIs(self.split(0, cut, box=((0, 0),)), False)
        self.assertIs(self.split(0, 0, box=((0, 1),)), True)
        self.assertIs(self.split(0, True, box=((0, 2),)), False)

    def test_inputs(self):
        box = ((-3, 5), (10, 12))
        for at, cut, told in ((0, 0, True), (1, 11, True), (1, 10, True), (1, 0, False), (0, 11, False), (2, 0, False),
                              (2, 11, False), (-1, 11, False), (-2, 0, False), (True, 11, False), (False, 0, False),
                              ("0", 0, False), ((), 0, False), ((0,), 0, False), (99, 0, False)):
            self.assertIs(self.split(at, cut, box=box), told, (at, cut))

    def test_both_sides_must_hold(self):
        for left, right, told in ((PLAIN, PLAIN, True), (POINTS, PLAIN, True), (("lines", ()), POINTS, True),
                                  (PLAIN, (), False), ((), PLAIN, False), (0, PLAIN, False), (PLAIN, "plain", False)):
            self.assertIs(self.split(0, 0, left=left, right=right), told)

    def test_the_boxes_of_the_sides(self):
        net = ("net", 1, (("fork", (RELU,), ()),))
        demand = ("least", (1, -1), 0)
        # Plain holds for the right side up to the box (0, 5), for the left one up to (-3, 0).
        for cut in (-1, 0):
            self.assertIs(judge(net, ((-3, 5),), demand, ("split", 0, cut, PLAIN, ("lines", ()))), True)
        self.assertIs(judge(net, ((-3, 5),), demand, ("split", 0, 1, PLAIN, ("lines", ()))), False)
        self.assertIs(judge(net, ((-3, 5),), demand, ("split", 0, -2, PLAIN, ("lines", ()))), False)
        self.assertIs(judge(ONE, ((-3, 70),), ("least", (1,), -3), ("split", 0, 6, POINTS, POINTS)), True)
        self.assertIs(judge(ONE, ((-3, 70),), ("least", (1,), -3), ("split", 0, 5, POINTS, POINTS)), False)
        self.assertIs(judge(ONE, ((-3, 70),), ("least", (1,), -3), ("split", 0, 60, POINTS, POINTS)), True)
        self.assertIs(judge(ONE, ((-3, 70),), ("least", (1,), -3), ("split", 0, 61, POINTS, POINTS)), False)

    def test_other_inputs_stay(self):
        demand = ("least", (1, 1, 1), 3)
        net = ("net", 3, ())
        box = ((0, 9), (1, 9), (2, 9))
        self.assertIs(judge(net, box, demand, ("split", 1, 5, PLAIN, PLAIN)), True)
        self.assertIs(judge(net, box, ("least", (1, 1, 1), 4), ("split", 1, 5, PLAIN, PLAIN)), False)
        self.assertIs(judge(net, box, ("least", (-1, -1, -1), -27), ("split", 1, 5, PLAIN, PLAIN)), True)
        self.assertIs(judge(net, box, ("least", (-1, -1, -1), -26), ("split", 1, 5, PLAIN, PLAIN)), False)

    def test_a_split_of_a_side_sees_its_box(self):
        inner = ("split", 0, 2, PLAIN, PLAIN)
        self.assertIs(self.split(0, 2, left=inner), False)
        self.assertIs(self.split(0, 3, left=inner), True)
        self.assertIs(self.split(0, 1, right=inner), True)
        self.assertIs(self.split(0, 2, right=inner), False)

    def test_many_deep(self):
        paper = POINTS
        for cut in range(20000):
            paper = ("split", 0, cut, PLAIN, paper)
        # Built from the inside, the outermost cut is the last one: turned around it fits.
        self.assertIs(judge(ONE, ((0, 20000),), ("least", (1,), 0), paper), False)
        paper = POINTS
        for cut in reversed(range(20000)):
            paper = ("split", 0, cut, PLAIN, paper)
        self.assertIs(judge(ONE, ((0, 20000),), ("least", (1,), 0), paper), True)
        self.assertIs(judge(ONE, ((0, 20063),), ("least", (1,), 0), paper), True)
        self.assertIs(judge(ONE, ((0, 20064),), ("least", (1,), 0), paper), False)
        self.assertIs(judge(ONE, ((0, 20000),), ("least", (-1,), -20000), paper), True)
        self.assertIs(judge(ONE, ((0, 20000),), ("least", (-1,), -19999), paper), False)
        paper = POINTS
        for cut in range(20000):
            paper = ("split", 0, cut, paper, PLAIN)
        self.assertIs(judge(ONE, ((0, 20000),), ("least", (1,), 0), paper), True)

    def test_many_sides(self):
        def halved(low, high):
            if low == high:
                return POINTS
            cut = (low + high) // 2
            return ("split", 0, cut, halved(low, cut), halved(cut + 1, high))
        paper = halved(-500, 500)
        self.assertIs(judge(ONE, ((-500, 500),), ("least", (1,), -500), paper), True)
        self.assertIs(judge(ONE, ((-500, 500),), ("least", (1,), -499), paper), False)
        self.assertIs(judge(ONE, ((-499, 500),), ("least", (1,), -499), paper), False)


class Others(unittest.TestCase):
    def test_papers_of_other_shapes(self):
        for paper in NO_PAPERS:
            self.assertIs(judge(ONE, ((-3, 5),), ("least", (0,), 0), paper), False, paper)
            self.assertIs(judge(ONE, ((-3, 5),), ("class", 0), paper), False, paper)
            self.assertIs(judge(ONE, ((-3, 5),), ("class", 0), ("split", 0, 0, PLAIN, paper)), False, paper)
            self.assertIs(judge(ONE, ((-3, 5),), ("class", 0), ("split", 0, 0, paper, PLAIN)), False, paper)

    def test_deep_things(self):
        deep = ()
        for _ in range(100000):
            deep = (deep,)
        for paper in (deep, ("lines", deep), ("split", 0, deep, PLAIN, PLAIN), ("split", deep, 0, PLAIN, PLAIN),
                      ("split", 0, 0, deep, PLAIN), ("split", 0, 0, PLAIN, deep), (deep, deep), ("plain", deep),
                      (deep, 0, 0, PLAIN, PLAIN), ("lines", (deep,))):
            self.assertIs(judge(ONE, ((-3, 5),), ("class", 0), paper), False)

    def test_the_example_of_the_document(self):
        self.assertEqual((judge(KINK, ((-3, 5),), ("least", (1,), 0), ("plain",)),
                          judge(KINK, ((-3, 5),), ("least", (1,), 1), ("points",))), (True, False))

    def test_the_arguments_stay(self):
        net = ("net", 1, (RELU, ("fork", (RELU,), ())))
        things = (net, ((-3, 5),), ("least", (1, -1), 0), ("split", 0, 0, POINTS, ("lines", ())))
        before = copy.deepcopy(things)
        self.assertIs(judge(*things), True)
        meets(net, (4,), things[2])
        parts_of(net, things[2])
        self.assertEqual(things, before)


class Holding(unittest.TestCase):
    """What j6 promises: if a paper holds, the demand is met at every point."""

    def some_demand(self, rng, net, box):
        n = length_of(net)
        y = outputs(net, rng.choice(all_points(box)))
        kind = rng.choice(("least", "class", "near"))
        if kind == "near" and n % 2 == 0:
            return ("near", max(abs(a - b) for a, b in zip(y, y[n // 2:])) + rng.randint(0, 3))
        if kind == "class":
            return ("class", class_of(y))
        factors = tuple(rng.randint(-3, 3) for _ in y)
        return ("least", factors, sum(c * signal for c, signal in zip(factors, y)) - rng.choice((0, 1, 99, UNIT)))

    def some_paper(self, rng, net, box, depth=0):
        kind = rng.choice(("plain", "lines", "points", "split"))
        wide = [at for at, (low, high) in enumerate(box) if low < high]
        if kind == "split" and wide and depth < 3:
            at = rng.choice(wide)
            low, high = box[at]
            cut = rng.randint(low, high - 1)
            sides = [box[:at] + (side,) + box[at + 1:] for side in ((low, cut), (cut + 1, high))]
            return ("split", at, cut) + tuple(self.some_paper(rng, net, side, depth + 1) for side in sides)
        if kind == "lines":
            return ("lines", tuple(rng.randint(0, 1) for _ in range(reference.crossing(net[2], box))))
        return (kind,) if kind == "points" else PLAIN

    def test_some_nets(self):
        rng = random.Random(52)
        held = {"plain": 0, "lines": 0, "points": 0, "split": 0}
        for case in range(1500):
            net = some_net(rng, most=rng.choice((2 * UNIT, 2 * UNIT, MOST_WEIGHT)))
            box = some_box(rng, net[1], rng.choice((9, 8 * UNIT, TOP)), rng.choice((9, 64)))
            demand = self.some_demand(rng, net, box)
            points = all_points(box)
            met = all(meets(net, point, demand) for point in points)
            self.assertIs(judge(net, box, demand, POINTS), met)
            paper = self.some_paper(rng, net, box)
            if judge(net, box, demand, paper):
                self.assertTrue(met)
                held[paper[0]] += 1
        self.assertGreater(min(held.values()), 50, held)


if __name__ == "__main__":
    unittest.main()
