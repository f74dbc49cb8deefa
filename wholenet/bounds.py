"""Bounds: what the signals of a layer are at least and at most, told by its inputs.

The bounds of a layer are a pair: a scale, and a list with a pair for each signal that the layer gives. Scale times
the signal is at least the first of this pair and at most the second one. Each of them is a pair of a list of
terms (index of an input, factor) and a constant.
"""

from wholenet.nets import cells, windows
from wholenet.numbers import UNIT
from wholenet.ranges import cell_ranges, clamped_range, is_let, layer_ranges


def crosses(pair):
    """Tells if a signal of this range may be below 0 and above 0."""
    low, high = pair
    return low < 0 < high


def exactly(terms):
    """The pair for a signal that is what the terms sum."""
    return (terms, 0), (terms, 0)


def about(terms, middle, off):
    """The pair for a signal that differs by at most off from what the terms and the middle sum."""
    return (terms, middle - off), (terms, middle + off)


def between(pair, scale):
    """The pair for a signal of which no more is told than its range."""
    low, high = pair
    return ([], scale * low), ([], scale * high)


def weighed_bounds(layer, ranges, choices):
    """The bounds of a dense or conv."""
    found = []
    for (row, place), pair in zip(cells(layer, len(ranges)), cell_ranges(layer, ranges)):
        if is_let(pair):
            terms = [(place + at, weight) for at, weight in enumerate(layer[1][row])]
            found.append(about(terms, UNIT * layer[2][row], UNIT // 2))
        else:
            found.append(between(clamped_range(pair), UNIT))
    return UNIT, found


def crossing_bounds(at, pair, choice):
    """The pair for a signal of a relu whose input with the index at crosses, with the scale UNIT."""
    low, high = pair
    # Rounded up, so that the line from (low, 0) on ends above (high, high).
    slope = -(-high * UNIT // (high - low))
    lower = [(at, UNIT)] if choice == 1 else []
    return (lower, 0), ([(at, slope)], -slope * low)


def relu_bounds(layer, ranges, choices):
    """The bounds of a relu; choices has one for each input that crosses."""
    scale = UNIT if any(crosses(pair) for pair in ranges) else 1
    found = []
    used = 0
    for at, pair in enumerate(ranges):
        if crosses(pair):
            found.append(crossing_bounds(at, pair, choices[used]))
            used += 1
        else:
            found.append(exactly([(at, scale)] if pair[1] > 0 else []))
    return scale, found


def clamp_bounds(layer, ranges, choices):
    """The bounds of a clamp."""
    found = []
    for at, (pair, told) in enumerate(zip(ranges, layer_ranges(layer, ranges))):
        # A range that the layer leaves as it is lies within the layer's own low and high.
        found.append(exactly([(at, 1)]) if pair == told else between(told, 1))
    return 1, found


def leader_of(window):
    """The index of the first input of a window that is never below another one, -1 if there is none."""
    for at, (low, high) in enumerate(window):
        others = window[:at] + window[at + 1:]
        if all([low >= other_high for other_low, other_high in others]):
            return at
    return -1


def window_bounds(start, window):
    """The pair for the greatest of a window that begins at the index start."""
    leader = leader_of(window)
    if leader >= 0:
        return exactly([(start + leader, 1)])
    lows = [low for low, high in window]
    return ([(start + lows.index(max(lows)), 1)], 0), ([], max([high for low, high in window]))


def max_bounds(layer, ranges, choices):
    """The bounds of a max."""
    size = layer[1]
    return 1, [window_bounds(at * size, window) for at, window in enumerate(windows(ranges, size))]


def mean_bounds(layer, ranges, choices):
    """The bounds of a mean."""
    size = layer[1]
    starts = range(0, len(ranges), size)
    return size, [about([(start + at, 1) for at in range(size)], 0, size // 2) for start in starts]


BOUNDS = {
    "dense": weighed_bounds,
    "conv": weighed_bounds,
    "relu": relu_bounds,
    "clamp": clamp_bounds,
    "max": max_bounds,
    "mean": mean_bounds,
}


def bounds_of(layer, ranges, choices):
    """The bounds of a layer that is no sum or fork, for inputs with these ranges."""
    action = BOUNDS[layer[0]]
    return action(layer, ranges, choices)
