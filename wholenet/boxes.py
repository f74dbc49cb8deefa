"""Boxes: tuples of pairs (low, high), one for each input, and their points."""

from wholenet.errors import BadBox
from wholenet.numbers import MOST_SIGNAL, is_from


def is_side(thing):
    """Tells if this is a pair (low, high) of a box."""
    if not isinstance(thing, tuple) or len(thing) != 2:
        return False
    low, high = thing
    return is_from(low, -MOST_SIGNAL, MOST_SIGNAL) and is_from(high, low, MOST_SIGNAL)


def is_box(thing, inputs):
    """Tells if this is a box for so many inputs."""
    return isinstance(thing, tuple) and len(thing) == inputs and all(is_side(side) for side in thing)


def check_box(net, box):
    """Returns None for a box of the net, and raises BadBox for any other thing."""
    if not is_box(box, net[1]):
        raise BadBox()


def many_points(box):
    """The number of the points of a box."""
    many = 1
    for low, high in box:
        many = many * (high - low + 1)
    return many


def points_of(box):
    """The list of all points of a box; only for small ones."""
    points = [()]
    for low, high in box:
        points = [point + (number,) for point in points for number in range(low, high + 1)]
    return points


def halves(box, at, cut):
    """The two boxes that a box is divided into: where the input with the index at is at most cut, and above it."""
    low, high = box[at]
    lower = box[:at] + ((low, cut),) + box[at + 1:]
    upper = box[:at] + ((cut + 1, high),) + box[at + 1:]
    return lower, upper
