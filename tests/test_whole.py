"""Promises c0 and c1: a net from its text by way of its training to what is decided of it."""

import random
import unittest

from tests.helper import all_points, some_log
from wholenet.agree import agree, prune
from wholenet.decide import decide, radius
from wholenet.judge import judge, meets
from wholenet.nets import class_of, outputs
from wholenet.numbers import UNIT
from wholenet.replay import audit, compact, go_on, losses, replay
from wholenet.texts import parse, shown
from wholenet.writing import mended, read_log, resume, write_entry, write_log

TEXT = """
net 2   # two inputs, two classes
dense
  row 900 -400 bias 10
  row -800 300 bias 20
  row 100 700 bias -5
relu
sum
  dense
    row 500 200 100 bias 0
    row -300 600 50 bias 1
with
  max 3
  dense
    row 300 bias 0
    row -200 bias 7
end
done
"""

# The class is 0 if the first input is greater.
EXAMPLES = tuple(((x * UNIT, y * UNIT), 0 if x > y else 1) for x in range(-3, 4) for y in range(-3, 4) if x != y)
BATCHES = tuple(tuple(range(at, at + 7)) for at in range(0, 42, 7))


def training():
    """The log of a training of the net, with checks and with a layer that is frozen for some time."""
    log = [("begin", parse(TEXT)), ("data", EXAMPLES[:20]), ("data", EXAMPLES[20:])]
    for turn in range(4):
        log += [("step", "margins", batch, UNIT // 4, UNIT // 2) for batch in BATCHES]
        log.append((("check",), ("freeze", 2), ("thaw", 2), ("check",))[turn])
    return tuple(log)


class Whole(unittest.TestCase):
    def setUp(self):
        self.log = training()
        self.state = replay(self.log)
        self.net = self.state[1]

    def test_training_learns(self):
        told = losses(self.log)
        self.assertEqual(len(told), 24)
        self.assertLess(sum(told[-6:]) * 2, sum(told[:6]))
        self.assertEqual(audit(self.log, told), -1)
        right = [class_of(outputs(self.net, inputs)) == k for inputs, k in EXAMPLES]
        self.assertGreater(sum(right), len(right) * 9 // 10)

    def test_cut_off_mended_and_gone_on_with(self):
        numbers = write_log(self.log)
        self.assertEqual(read_log(numbers), self.log)
        rng = random.Random(95)
        for cut in sorted(rng.sample(range(1, len(numbers)), 25)):
            kept_log, many = mended(numbers[:cut])
            self.assertEqual(kept_log, self.log[:len(kept_log)])
            if not kept_log:
                continue
            kept = numbers[:many]
            state = resume(kept)
            for place in range(len(kept_log), len(self.log)):
                entry = self.log[place]
                state = go_on(state, (entry,), place)
                kept += write_entry(entry, state)
            self.assertEqual(state, self.state)
            self.assertEqual(kept, numbers)

    def test_the_net_of_a_log_is_that_of_training(self):
        self.assertEqual(resume(write_log(self.log)), self.state)
        self.assertEqual(replay(compact(self.log)), self.state)
        self.assertEqual(resume(write_log(compact(self.log))), self.state)
        self.assertEqual(parse(shown(self.net)), self.net)

    def test_decided(self):
        far = ((2 * UNIT, 3 * UNIT), (-3 * UNIT, -2 * UNIT))
        told = decide(self.net, far, ("class", 0))
        self.assertEqual(told[0], "holds")
        self.assertIs(judge(self.net, far, ("class", 0), told[1]), True)
        told = decide(self.net, far, ("class", 1))
        self.assertEqual(told[0], "fails")
        self.assertIs(meets(self.net, told[1], ("class", 1)), False)
        both = ((-3 * UNIT, 3 * UNIT),) * 2
        for k in (0, 1):
            told = decide(self.net, both, ("class", k))
            self.assertEqual(told[0], "fails")
            self.assertNotEqual(class_of(outputs(self.net, told[1])), k)

    def test_small_boxes(self):
        for x in range(-2, 3):
            for y in range(-2, 3):
                box = ((x * UNIT, x * UNIT + 7), (y * UNIT - 3, y * UNIT + 5))
                for k in (0, 1):
                    told = decide(self.net, box, ("class", k))
                    met = all(meets(self.net, point, ("class", k)) for point in all_points(box))
                    self.assertEqual(told[0], "holds" if met else "fails")
                    if met:
                        self.assertIs(judge(self.net, box, ("class", k), told[1]), True)
                    else:
                        self.assertIs(meets(self.net, told[1], ("class", k)), False)

    def test_the_radius(self):
        x = (2 * UNIT, -2 * UNIT)
        told = radius(self.net, x, ("class", 0), most=4 * UNIT)
        self.assertEqual(told[0], "radius")
        word, r, paper, broken = told
        self.assertTrue(UNIT // 4 < r < 4 * UNIT)
        self.assertIs(judge(self.net, tuple((at - r, at + r) for at in x), ("class", 0), paper), True)
        self.assertEqual(max(abs(a - b) for a, b in zip(x, broken)), r + 1)
        self.assertEqual(class_of(outputs(self.net, broken)), 1)

    def test_pruned_and_compared(self):
        net = ("net", 2, self.net[2][:2] + (("dense", ((UNIT, 0, 0), (0, UNIT, UNIT)), (0, 0)),))
        box = ((UNIT, 3 * UNIT), (-3 * UNIT, -UNIT))
        less = prune(net, box)
        self.assertLess(len(less[2][0][1]), 3)
        # Lines allow for some rounding in each layer; where the nets are just the same, only points tell it.
        self.assertEqual(agree(net, less, box, 3)[0], "holds")
        self.assertEqual(agree(net, less, ((UNIT, UNIT + 40), (-UNIT - 40, -UNIT)), 0)[0], "holds")
        self.assertEqual(agree(net, less, ((-UNIT, UNIT), (-UNIT, UNIT)), 3)[0], "fails")


class Changes(unittest.TestCase):
    def test_lists_stay(self):
        # The one kind of list that is handed in, but for the choices of lines.
        rng = random.Random(96)
        numbers = write_log(some_log(rng))
        kept = list(numbers)
        mended(numbers + [0])
        read_log(numbers)
        resume(numbers)
        self.assertEqual(numbers, kept)


if __name__ == "__main__":
    unittest.main()
