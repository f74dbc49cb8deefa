"""Losses of outputs, with their gradients."""

from wholenet.numbers import UNIT, dot


def squares(y, target):
    """The sum of the squares of the differences, and the gradient of its half."""
    apart = tuple([output - wanted for output, wanted in zip(y, target)])
    return dot(apart, apart), (1, apart)


def margins(y, target):
    """By how much the other outputs are not UNIT below that of the class, and the gradient of that."""
    missing = [max(0, UNIT + output - y[target]) for output in y]
    # The class itself is no rival of its own.
    missing[target] = 0
    numbers = [1 if number > 0 else 0 for number in missing]
    numbers[target] = -sum(numbers)
    return sum(missing), (0, tuple(numbers))


def loss_of(loss, y, target):
    """The pair of the loss of the outputs y and its gradient; loss is "squares" or "margins"."""
    if loss == "squares":
        return squares(y, target)
    return margins(y, target)
