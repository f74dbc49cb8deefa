"""Promises d1 to d3: deciding, fuel, and the radius."""

import copy
import inspect
import random
import unittest

from tests.helper import all_points, some_box, some_net
from tests.test_judge import DEMANDS_OF_TWO, NO_BOXES_OF_TWO, NO_DEMANDS_OF_TWO
from wholenet.decide import decide, radius
from wholenet.errors import BadBox, BadDemand
from wholenet.judge import judge, meets
from wholenet.nets import class_of, length_of, outputs
from wholenet.numbers import MOST_SIGNAL, MOST_WEIGHT, UNIT

TOP = MOST_SIGNAL
MILLION = 10 ** 6
RELU = ("relu",)
ONE = ("net", 1, ())
TWO = ("net", 2, ())
KINK = ("net", 1, (RELU,))
PLAIN = ("plain",)


def apart(*middles):
    """A net that gives the sum of the distances of its inputs from the middles, which are within MOST_WEIGHT."""
    n = len(middles)
    rows = tuple(tuple(sign * UNIT if at == row else 0 for at in range(n)) for row in range(n) for sign in (1, -1))
    biases = tuple(-sign * middle for middle in middles for sign in (1, -1))
    return ("net", n, (("dense", rows, biases), RELU, ("dense", ((UNIT,) * (2 * n),), (0,))))


def kinked_net(rng, n):
    """A net with crossing signals at small inputs, so that neither ranges nor lines tell all of it."""
    def dense(inputs, rows):
        weights = tuple(tuple(rng.randint(-4, 4) * UNIT // 2 for _ in range(inputs)) for _ in range(rows))
        return ("dense", weights, tuple(rng.randint(-9, 9) for _ in range(rows)))
    return ("net", n, (dense(n, 3), RELU, dense(3, 4), rng.choice((RELU, ("clamp", -5, 5), ("max", 2))))
            + rng.choice(((), (("sum", (), (("mean", 1), RELU)),), (("fork", (), (RELU,)),))))


def nodes(paper):
    """How many splits and other papers a paper has."""
    if paper[0] == "split":
        return 1 + nodes(paper[3]) + nodes(paper[4])
    return 1


def some_demand(rng, net, box):
    """A demand that is met at some point of the box, or nearly; some just at all points, or at all but few."""
    n = length_of(net)
    points = all_points(box)
    y = outputs(net, rng.choice(points))
    kind = rng.choice(("least", "tight", "tight", "class", "near"))
    if kind == "near" and n % 2 == 0:
        return ("near", max(0, max(abs(a - b) for a, b in zip(y, y[n // 2:])) + rng.randint(-1, 3)))
    if kind == "class":
        return ("class", class_of(y))
    factors = tuple(rng.randint(-3, 3) for _ in y)
    if kind == "tight":
        least = min(sum(c * signal for c, signal in zip(factors, outputs(net, point))) for point in points)
        return ("least", factors, least + rng.choice((0, 0, 0, -1, 1)))
    return ("least", factors, sum(c * signal for c, signal in zip(factors, y)) - rng.choice((-1, 0, 0, 1, 9, UNIT)))


class DecideCase(unittest.TestCase):
    def holds(self, net, box, demand, fuel=1000):
        told = decide(net, box, demand, fuel)
        self.assertEqual((len(told), told[0]), (2, "holds"))
        self.assertIs(judge(net, box, demand, told[1]), True)
        self.cut_in_the_middle(box, told[1])
        return told[1]

    def fails(self, net, box, demand, fuel=1000):
        told = decide(net, box, demand, fuel)
        self.assertEqual((len(told), told[0]), (2, "fails"))
        self.assertIs(type(told[1]), tuple)
        self.assertEqual(len(told[1]), len(box))
        for x, (low, high) in zip(told[1], box):
            self.assertTrue(low <= x <= high)
        self.assertIs(meets(net, told[1], demand), False)
        return told[1]

    def cut_in_the_middle(self, box, paper):
        if paper[0] == "split":
            kind, at, cut, left, right = paper
            low, high = box[at]
            self.assertEqual(high - low, max(high - low for low, high in box))
            self.assertIn((cut - low + 1) - (high - cut), (0, 1))
            self.cut_in_the_middle(box[:at] + ((low, cut),) + box[at + 1:], left)
            self.cut_in_the_middle(box[:at] + ((cut + 1, high),) + box[at + 1:], right)


class Answers(DecideCase):
    def test_the_example_of_the_document(self):
        self.assertEqual(decide(KINK, ((-3, 5),), ("least", (-1,), -4)), ("fails", (5,)))

    def test_by_ranges(self):
        for fuel in (1, 2, 1000):
            self.assertEqual(self.holds(KINK, ((-TOP, TOP),), ("least", (1,), 0), fuel), PLAIN)
            self.assertEqual(self.holds(TWO, ((0, TOP), (-TOP, -1)), ("class", 0), fuel), PLAIN)
            self.assertEqual(self.holds(ONE, ((-TOP, TOP),), ("class", 0), fuel), PLAIN)

    def test_by_lines(self):
        net = ("net", 1, (("fork", (RELU,), ()),))
        for fuel in (1, 2, 1000):
            # max(x, 0) is at least x, which no range tells.
            paper = self.holds(net, ((-99, TOP),), ("least", (1, -1), 0), fuel)
            self.assertEqual(paper, ("lines", (1,)))
            self.assertEqual(self.holds(net, ((-TOP, 99),), ("least", (1, 0), 0), fuel), PLAIN)
            self.assertEqual(self.holds(net, ((1, 99),), ("near", 0), fuel), ("lines", ()))
            # max(x, 0) + x - x, where x is mostly below 0.
            twice = ("net", 1, (("fork", (), ()), ("fork", (RELU,), ())))
            paper = self.holds(twice, ((-TOP, 99),), ("least", (1, 0, 1, -1), 0), fuel)
            self.assertEqual(paper, ("lines", (0, 0)))

    def test_by_all_points(self):
        # Twice the clamp at 0 gives 0 or 1 alone, never both: the product of x and 1 - x, in a way.
        net = ("net", 1, (("fork", (("clamp", 0, 1),), (("clamp", 0, 1),)), ("dense", ((UNIT, -UNIT),), (0,))))
        for box in (((-31, 32),), ((-1, 2),), ((0, 1),)):
            for fuel in (1, 2, 1000):
                self.assertEqual(self.holds(net, box, ("least", (1,), 0), fuel), ("points",))
        self.assertEqual(decide(net, ((-31, 33),), ("least", (1,), 0), 1), ("open",))
        self.assertEqual(decide(net, ((-31, 33),), ("least", (1,), 0), 2), ("open",))
        self.assertEqual(self.holds(net, ((-31, 33),), ("least", (1,), 0), 3), ("split", 0, 1, ("points",), PLAIN))

    def test_points_that_fail(self):
        for fuel in (1, 2, 1000):
            self.assertEqual(self.fails(KINK, ((-TOP, TOP),), ("least", (-1,), 1 - TOP), fuel), (TOP,))
            self.assertEqual(self.fails(KINK, ((7, 7),), ("least", (-1,), 0), fuel), (7,))
            self.assertEqual(self.fails(TWO, ((0, 9), (0, 9)), ("least", (1, -1), -8), fuel), (0, 9))

    def test_one_point_of_a_small_box(self):
        for middle in range(-5, 6):
            net = apart(middle)
            self.assertEqual(self.fails(net, ((-5, 5),), ("least", (1,), 1), 1), (middle,))
            self.holds(net, ((-5, 5),), ("least", (1,), 0), 1)

    def test_fuel_of_no_avail(self):
        net = apart(3, 5)
        box = ((-99, 99), (-99, 99))
        self.assertEqual(decide(net, box, ("least", (1,), 1), 1), ("open",))
        self.assertEqual(decide(net, box, ("least", (1,), 1), 2), ("open",))
        self.assertEqual(self.fails(net, box, ("least", (1,), 1)), (3, 5))
        self.assertEqual(decide(net, box, ("least", (1,), 1), fuel=1), ("open",))


class Fuel(DecideCase):
    def test_the_first_box_counts(self):
        rng = random.Random(81)
        divided = 0
        for _ in range(120):
            net = kinked_net(rng, rng.randint(1, 3))
            box = some_box(rng, net[1], 9, 1000)
            demand = some_demand(rng, net, box)
            told = decide(net, box, demand)
            self.assertNotEqual(told, ("open",))
            if told[0] == "holds":
                # Each split and each other paper is of one box that was looked at.
                many = nodes(told[1])
                self.assertEqual(decide(net, box, demand, many), told)
                divided += many > 1
                for fuel in range(1, many)[-3:]:
                    self.assertEqual(decide(net, box, demand, fuel), ("open",))
            else:
                least = 1
                while decide(net, box, demand, least) == ("open",):
                    least += 1
                for fuel in (least, least + 1, 10 ** 30):
                    self.assertEqual(decide(net, box, demand, fuel), told)
        self.assertGreater(divided, 5)

    def test_twice_the_points_are_enough(self):
        rng = random.Random(82)
        for _ in range(200):
            net = some_net(rng, most=rng.choice((2 * UNIT, MOST_WEIGHT)))
            box = some_box(rng, net[1], rng.choice((9, 8 * UNIT, TOP)), rng.choice((1, 5, 64, 300)))
            demand = some_demand(rng, net, box)
            self.assertNotEqual(decide(net, box, demand, 2 * len(all_points(box))), ("open",))

    def test_it_is_1000_if_it_is_left_out(self):
        self.assertEqual(str(inspect.signature(decide)), "(net, box, demand, fuel=1000)")
        # The first input less itself; each dense layer rounds, so that only points tell that it is 0.
        first = ("dense", ((UNIT, 0),), (0,))
        net = ("net", 2, (("fork", (first,), (first,)), ("dense", ((UNIT, -UNIT),), (0,))))
        paper = self.holds(net, ((0, 1), (0, 8191)), ("least", (1,), 0))
        self.assertEqual(nodes(paper), 511)
        self.assertEqual(decide(net, ((0, 1), (0, 16383)), ("least", (1,), 0)), ("open",))
        self.assertEqual(decide(net, ((0, 1), (0, 16383)), ("least", (1,), 0), 1022), ("open",))
        paper = self.holds(net, ((0, 1), (0, 16383)), ("least", (1,), 0), 1023)
        self.assertEqual(nodes(paper), 1023)


class SmallBoxes(DecideCase):
    def test_against_all_points(self):
        rng = random.Random(83)
        seen = {}
        for case in range(800):
            net = some_net(rng, most=rng.choice((2 * UNIT, 2 * UNIT, MOST_WEIGHT)))
            box = some_box(rng, net[1], rng.choice((9, 8 * UNIT, TOP)), rng.choice((9, 64, 200)))
            if case < 200:
                net = kinked_net(rng, rng.randint(1, 3))
                box = some_box(rng, net[1], 9, 500)
            demand = some_demand(rng, net, box)
            if all(meets(net, point, demand) for point in all_points(box)):
                paper = self.holds(net, box, demand)
                seen[paper[0]] = seen.get(paper[0], 0) + 1
            else:
                self.fails(net, box, demand)
                seen["fails"] = seen.get("fails", 0) + 1
        self.assertEqual(sorted(seen), ["fails", "lines", "plain", "points", "split"])
        self.assertGreater(min(seen.values()), 10, seen)


class LongSides(DecideCase):
    def test_one_point_out_of_two_million(self):
        for middle in (0, 1, -1, 77777, -123456, MILLION, -MILLION):
            net = apart(middle)
            box = ((-MILLION, MILLION),)
            self.assertEqual(self.fails(net, box, ("least", (1,), 1)), (middle,))
            self.holds(net, box, ("least", (1,), 0))
            if middle > -MILLION:
                self.holds(net, ((-MILLION, middle - 1),), ("least", (1,), 1))
                self.fails(net, ((-MILLION, middle),), ("least", (1,), 1))

    def test_one_point_of_a_square(self):
        for middles in ((0, 0), (1, -77777), (123456, MILLION)):
            net = apart(*middles)
            box = ((-MILLION, MILLION), (-MILLION, MILLION))
            self.assertEqual(self.fails(net, box, ("least", (1,), 1)), middles)
            self.holds(net, box, ("least", (1,), 0))

    def test_all_inputs(self):
        # Behind the clamp there is no more to tell than 0 to 5.
        net = ("net", 1, (("clamp", 0, 5), ("fork", (), (("dense", ((UNIT,),), (1,)),))))
        box = ((-TOP, TOP),)
        self.holds(net, box, ("near", 1))
        self.fails(net, box, ("near", 0))
        self.holds(net, box, ("class", 1))
        self.fails(net, box, ("class", 0))

    def test_sides_of_other_lengths(self):
        net = ("net", 3, (("dense", ((UNIT, UNIT, 0), (0, UNIT, UNIT), (UNIT, 0, -UNIT)), (0, 5, -5)), RELU))
        box = ((-MILLION, MILLION), (7, 7), (-3, 3))
        self.holds(net, box, ("least", (1, 0, -1), 0))
        self.fails(net, box, ("least", (-1, 0, 1), 0))

    def test_some_nets(self):
        rng = random.Random(84)
        kinds = {"holds": 0, "fails": 0, "open": 0}
        for _ in range(60):
            net = some_net(rng)
            side = rng.choice((1000, MILLION))
            middle = tuple(rng.randint(-side, side) for _ in range(net[1]))
            box = tuple((x - side, x + side) for x in middle)
            demand = some_demand(rng, net, tuple((x, x) for x in middle))
            told = decide(net, box, demand, 60)
            kinds[told[0]] += 1
            if told[0] == "holds":
                self.holds(net, box, demand, 60)
                for _ in range(20):
                    self.assertTrue(meets(net, tuple(rng.randint(*pair) for pair in box), demand))
            elif told[0] == "fails":
                self.fails(net, box, demand, 60)
            else:
                self.assertEqual(told, ("open",))
        self.assertGreater(min(kinds["holds"], kinds["fails"]), 5)


class Refusals(unittest.TestCase):
    def test_boxes(self):
        for box in NO_BOXES_OF_TWO:
            for demand in (("class", 0), ("class", 5), None):
                with self.assertRaises(BadBox, msg=box):
                    decide(TWO, box, demand)

    def test_demands(self):
        for demand in NO_DEMANDS_OF_TWO:
            with self.assertRaises(BadDemand, msg=demand):
                decide(TWO, ((0, 1), (0, 1)), demand)
            with self.assertRaises(BadDemand, msg=demand):
                decide(TWO, ((0, 1), (0, 1)), demand, 1)
        for demand in DEMANDS_OF_TWO:
            self.assertIn(decide(TWO, ((0, 1), (0, 1)), demand)[0], ("holds", "fails"))


class Radius(unittest.TestCase):
    def around(self, x, r):
        return tuple((max(-TOP, at - r), min(TOP, at + r)) for at in x)

    def told(self, net, x, demand, most, want, fuel=1000):
        """The radius is the one that is wanted, with a paper and with broken inputs."""
        told = radius(net, x, demand, most=most, fuel=fuel)
        self.assertEqual((type(told), len(told), told[0]), (tuple, 4, "radius"))
        word, r, paper, broken = told
        self.assertEqual(r, want)
        if r == -1:
            self.assertEqual(paper, ())
        else:
            self.assertIs(judge(net, self.around(x, r), demand, paper), True)
        if r == most:
            self.assertEqual(broken, ())
        else:
            self.assertEqual(len(broken), len(x))
            for number, (low, high) in zip(broken, self.around(x, r + 1)):
                self.assertTrue(low <= number <= high)
            self.assertIs(meets(net, broken, demand), False)
        return told

    def test_the_example_of_the_document(self):
        told = radius(ONE, (0,), ("least", (1,), -3), most=9)
        self.assertEqual((told[1], told[3]), (3, (-4,)))
        self.told(ONE, (0,), ("least", (1,), -3), 9, 3)

    def test_every_most(self):
        for most in range(12):
            self.told(ONE, (0,), ("least", (1,), -3), most, min(3, most))
            self.told(ONE, (0,), ("least", (1,), 0), most, 0)
            self.told(ONE, (0,), ("least", (1,), 1), most, -1)
            self.told(ONE, (5,), ("least", (0,), 0), most, most)
            self.told(apart(7, -2), (3, 3), ("least", (1,), 1), most, min(4, most))

    def test_every_radius(self):
        for most in (0, 1, 2, 3, 10, 31, 32, 33, 1000):
            for r in range(0, 40):
                self.told(ONE, (0,), ("least", (1,), -r), most, min(r, most))

    def test_broken_at_x_itself(self):
        told = self.told(ONE, (4,), ("least", (1,), 5), 9, -1)
        self.assertEqual(told, ("radius", -1, (), (4,)))
        self.assertEqual(radius(ONE, (4,), ("least", (1,), 5), most=0), ("radius", -1, (), (4,)))

    def test_far_away(self):
        self.told(ONE, (0,), ("least", (1,), -MILLION), 2 * MILLION, MILLION)
        self.told(ONE, (0,), ("least", (1,), -MILLION), MILLION, MILLION)
        self.told(ONE, (0,), ("least", (1,), -MILLION), MILLION - 1, MILLION - 1)
        self.told(apart(-77777), (123456,), ("least", (1,), 1), TOP, 77777 + 123456 - 1)

    def test_inputs_at_the_bound(self):
        for sign in (1, -1):
            self.told(ONE, (sign * TOP,), ("least", (sign,), TOP - 5), 9, 5)
            self.told(ONE, (sign * TOP,), ("least", (sign,), TOP), 9, 0)
            self.told(ONE, (sign * TOP,), ("least", (-sign,), -TOP), 9, 9)
            self.told(ONE, (sign * (TOP - 2),), ("least", (-sign,), 1 - TOP), 9, 1)
            self.told(TWO, (sign * TOP, -sign * TOP), ("least", (sign, -sign), 2 * TOP - 7), 9, 3)

    def test_radii_beyond_all_inputs(self):
        for most in (2 * TOP - 1, 2 * TOP, 2 * TOP + 1, 10 ** 40):
            self.told(ONE, (0,), ("least", (0,), 0), most, most)
            self.told(ONE, (TOP,), ("least", (1,), -TOP), most, most)
            self.told(ONE, (TOP,), ("least", (1,), 1 - TOP), most, 2 * TOP - 1)
            self.told(ONE, (0,), ("least", (1,), 1 - TOP), most, TOP - 1)
            self.told(ONE, (0,), ("least", (1,), 1), most, -1)

    def test_against_all_points(self):
        rng = random.Random(85)
        seen = {}
        for _ in range(250):
            net = some_net(rng)
            if net[1] > 3:
                continue
            x = tuple(rng.choice((rng.randint(-9, 9), rng.randint(-8 * UNIT, 8 * UNIT), TOP - 1)) for _ in range(net[1]))
            demand = some_demand(rng, net, tuple((at, at) for at in x))
            most = rng.randint(0, (60, 8, 3)[net[1] - 1])
            want = -1
            while want < most and all(meets(net, point, demand) for point in all_points(self.around(x, want + 1))):
                want += 1
            many = len(all_points(self.around(x, most)))
            self.told(net, x, demand, most, want)
            self.told(net, x, demand, most, want, 2 * many)
            seen["least" if want == -1 else "most" if want == most else "between"] = True
        self.assertEqual(len(seen), 3)

    def test_open(self):
        net = apart(3, 5)
        self.assertEqual(radius(net, (90, 90), ("least", (1,), 1), most=200, fuel=1), ("open",))
        told = self.told(net, (90, 90), ("least", (1,), 1), 200, 86)
        self.assertEqual(told[3], (3, 5))
        # Nothing is open where every box that is decided needs one look.
        self.told(ONE, (0,), ("least", (1,), -MILLION), TOP, MILLION, fuel=1)

    def test_inputs_that_do_not_fit(self):
        for x in ((), (1,), (1, 2, 3), [1, 2], None, 5, "12", ("1", 2), (1, None), (True, 2), (1, False), (TOP + 1, 0),
                  (0, -TOP - 1), ((1, 2), (3, 4)), ((1,), 2), True):
            for demand in (("class", 0), ("class", 5), None):
                with self.assertRaises(BadBox, msg=x):
                    radius(TWO, x, demand, most=3)
        for x in ((TOP, -TOP), (0, 0)):
            self.told(TWO, x, ("class", 0), 0, 0)

    def test_demands_that_do_not_fit(self):
        for demand in NO_DEMANDS_OF_TWO:
            for most in (0, 3):
                with self.assertRaises(BadDemand, msg=demand):
                    radius(TWO, (1, 2), demand, most=most)

    def test_most_and_fuel_by_name(self):
        with self.assertRaises(TypeError):
            radius(ONE, (0,), ("least", (1,), -3), 9)
        with self.assertRaises(TypeError):
            radius(ONE, (0,), ("least", (1,), -3))


class Arguments(unittest.TestCase):
    def test_they_stay(self):
        net = apart(3, 5)
        things = (net, ((-99, 99), (-99, 99)), ("least", (1,), 1))
        before = copy.deepcopy(things)
        decide(*things)
        decide(*things, fuel=5)
        radius(net, (50, 50), things[2], most=99)
        self.assertEqual(things, before)


if __name__ == "__main__":
    unittest.main()
