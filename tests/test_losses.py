"""Promise g5: losses and their gradients."""

import random
import unittest

from wholenet.losses import loss_of
from wholenet.numbers import MOST_SIGNAL, UNIT


class LossCase(unittest.TestCase):
    def loss(self, loss, y, target, told, numbers):
        given = loss_of(loss, y, target)
        self.assertEqual(given, (told, (1 if loss == "squares" else 0, numbers)))
        self.assertIs(type(given), tuple)
        self.assertIs(type(given[1][1]), tuple)


class Squares(LossCase):
    def test_ordinary(self):
        self.loss("squares", (3, -4), (1, 1), 4 + 25, (2, -5))
        self.loss("squares", (3, -4), (5, -9), 4 + 25, (-2, 5))
        self.loss("squares", (7,), (7,), 0, (0,))
        self.loss("squares", (1, 2, 3), (0, 0, 0), 14, (1, 2, 3))

    def test_far_apart(self):
        self.loss("squares", (MOST_SIGNAL,), (-MOST_SIGNAL,), 4 * MOST_SIGNAL ** 2, (2 * MOST_SIGNAL,))


class Margins(LossCase):
    def test_the_example(self):
        self.loss("margins", (10, 5000, 0), 0, 13172, (-2, 1, 1))

    def test_one_output(self):
        for y in (-5, 0, 5):
            self.loss("margins", (y,), 0, 0, (0,))

    def test_ties(self):
        self.loss("margins", (5, 5), 0, UNIT, (-1, 1))
        self.loss("margins", (5, 5), 1, UNIT, (1, -1))
        self.loss("margins", (0, 0, 0, 0), 2, 3 * UNIT, (1, 1, -3, 1))

    def test_the_edge_of_the_margin(self):
        self.loss("margins", (UNIT, 0), 0, 0, (0, 0))
        self.loss("margins", (UNIT - 1, 0), 0, 1, (-1, 1))
        self.loss("margins", (UNIT + 1, 0), 0, 0, (0, 0))
        self.loss("margins", (-3, UNIT - 3, -4), 1, 0, (0, 0, 0))
        self.loss("margins", (-2, UNIT - 3, -4), 1, 1, (1, -1, 0))
        self.loss("margins", (-2, UNIT - 3, -2), 1, 2, (1, -2, 1))

    def test_each_class(self):
        y = (100, -UNIT, 5000)
        self.loss("margins", y, 0, UNIT + 5000 - 100, (-1, 0, 1))
        self.loss("margins", y, 1, UNIT + 100 + UNIT + UNIT + 5000 + UNIT, (1, -2, 1))
        self.loss("margins", y, 2, 0, (0, 0, 0))

    def test_far_apart(self):
        y = (MOST_SIGNAL, -MOST_SIGNAL)
        self.loss("margins", y, 0, 0, (0, 0))
        self.loss("margins", y, 1, UNIT + 2 * MOST_SIGNAL, (1, -1))

    def test_against_a_loop(self):
        rng = random.Random(2)
        for _ in range(300):
            y = tuple(rng.randint(-2, 2) * UNIT + rng.randint(-1, 1) for _ in range(rng.randint(1, 5)))
            k = rng.randrange(len(y))
            told, numbers = 0, [0] * len(y)
            for j in range(len(y)):
                if j != k and UNIT + y[j] - y[k] > 0:
                    told += UNIT + y[j] - y[k]
                    numbers[j] += 1
                    numbers[k] -= 1
            self.loss("margins", y, k, told, tuple(numbers))


if __name__ == "__main__":
    unittest.main()
