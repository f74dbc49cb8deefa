"""Ranges: pairs (low, high) that signals lie within for all inputs of a box."""

from wholenet.nets import cells, layer_signals
from wholenet.numbers import MOST_SIGNAL, UNIT, clamped, rounded, within


def worst(factor, pair):
    """The end of a range at which the factor times the signal is least."""
    low, high = pair
    return low if factor >= 0 else high


def least(factors, ranges):
    """A number that the sum of factors times signals is never below: each signal at its worst."""
    return sum([factor * worst(factor, pair) for factor, pair in zip(factors, ranges)])


def greatest(factors, ranges):
    """A number that the sum of factors times signals is never above."""
    return sum([factor * worst(-factor, pair) for factor, pair in zip(factors, ranges)])


def weighed_range(row, bias, ranges):
    """The range of what a row and its bias make of signals, ahead of the clamping."""
    low = rounded(least(row, ranges), UNIT) + bias
    high = rounded(greatest(row, ranges), UNIT) + bias
    return low, high


def cell_ranges(layer, ranges):
    """The list of the ranges of the signals of a dense or conv, ahead of the clamping."""
    size = len(layer[1][0])
    found = []
    for row, place in cells(layer, len(ranges)):
        found.append(weighed_range(layer[1][row], layer[2][row], ranges[place:place + size]))
    return found


def added_ranges(ones, others):
    """The list of the ranges of the signals of a sum, ahead of the clamping."""
    return [(low + more_low, high + more_high) for (low, high), (more_low, more_high) in zip(ones, others)]


def is_let(pair):
    """Tells if no signal of this range is changed by the clamping at MOST_SIGNAL."""
    low, high = pair
    return within(low, MOST_SIGNAL) and within(high, MOST_SIGNAL)


def clamped_range(pair):
    """The range behind the clamping at MOST_SIGNAL."""
    low, high = pair
    return clamped(low, MOST_SIGNAL), clamped(high, MOST_SIGNAL)


def clamped_ranges(ranges):
    """The tuple of the ranges behind the clamping at MOST_SIGNAL."""
    return tuple([clamped_range(pair) for pair in ranges])


def rising_ranges(layer, ranges):
    """The ranges of what a relu, clamp, max or mean gives: none of its signals falls where one of its inputs rises."""
    lows = layer_signals(layer, tuple([low for low, _ in ranges]))
    highs = layer_signals(layer, tuple([high for _, high in ranges]))
    return tuple(zip(lows, highs))


def last_ranges(layers, ranges):
    """The ranges of what the last of the layers gives; ranges if there is none."""
    return ranges_of(layers, ranges)[-1]


def layer_ranges(layer, ranges):
    """The tuple of the ranges of what a layer gives."""
    kind = layer[0]
    if kind in ("dense", "conv"):
        return clamped_ranges(cell_ranges(layer, ranges))
    if kind == "sum":
        return clamped_ranges(added_ranges(last_ranges(layer[1], ranges), last_ranges(layer[2], ranges)))
    if kind == "fork":
        return last_ranges(layer[1], ranges) + last_ranges(layer[2], ranges)
    return rising_ranges(layer, ranges)


def ranges_of(layers, ranges):
    """The list of the ranges ahead of each layer and behind the last one."""
    found = [ranges]
    for layer in layers:
        found.append(layer_ranges(layer, found[-1]))
    return found
