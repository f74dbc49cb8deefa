"""Lines (scale, factors, constant), and how they are taken back through layers.

A line says that scale times some sum is at least the sum of factors times signals and constant.
"""

from wholenet.bounds import bounds_of, crosses
from wholenet.nets import last_length
from wholenet.ranges import added_ranges, clamped_range, is_let, last_ranges, ranges_of, worst


class Plain:
    """How lines are taken back through a layer without branches: by its bounds."""

    def __init__(self, length, bounds):
        self.length = length
        self.scale, self.bounds = bounds

    def back(self, line):
        """The line ahead of the layer, for a line behind it."""
        scale, factors, constant = line
        found = [0] * self.length
        constant = constant * self.scale
        for factor, (lower, upper) in zip(factors, self.bounds):
            terms, rest = lower if factor >= 0 else upper
            constant = constant + factor * rest
            for at, weight in terms:
                found[at] += factor * weight
        return scale * self.scale, tuple(found), constant


class Added:
    """How lines are taken back through a sum; ranges are those of its signals ahead of the clamping."""

    def __init__(self, ranges, first, second):
        self.ranges = ranges
        self.first = first
        self.second = second

    def back(self, line):
        """The line ahead of the sum, for a line behind it."""
        scale, factors, constant = line
        let = []
        for factor, pair in zip(factors, self.ranges):
            if is_let(pair):
                let.append(factor)
            else:
                let.append(0)
                constant = constant + factor * worst(factor, clamped_range(pair))
        shared = (1, tuple(let), 0)
        return together(scale, constant, through(self.first, shared), through(self.second, shared))


class Forked:
    """How lines are taken back through a fork, the first branch of which gives many signals."""

    def __init__(self, many, first, second):
        self.many = many
        self.first = first
        self.second = second

    def back(self, line):
        """The line ahead of the fork, for a line behind it."""
        scale, factors, constant = line
        one = through(self.first, (1, factors[:self.many], 0))
        other = through(self.second, (1, factors[self.many:], 0))
        return together(scale, constant, one, other)


def together(scale, constant, one, other):
    """The line that the lines of two branches make with the scale and the constant ahead of them."""
    first, ones, rest = one
    second, others, more = other
    factors = tuple([factor * second + more_factor * first for factor, more_factor in zip(ones, others)])
    return scale * first * second, factors, constant * first * second + rest * second + more * first


def through(steps, line):
    """The line ahead of the first of the steps, for a line behind the last one."""
    for step in steps[::-1]:
        line = step.back(line)
    return line


def step_of(layer, ranges, choices):
    """How lines are taken back through a layer whose inputs have these ranges."""
    if layer[0] not in ("sum", "fork"):
        return Plain(len(ranges), bounds_of(layer, ranges, choices))
    kind, one, other = layer
    many = crossing(one, ranges)
    first = steps_of(one, ranges, choices[:many])
    second = steps_of(other, ranges, choices[many:])
    if kind == "sum":
        return Added(added_ranges(last_ranges(one, ranges), last_ranges(other, ranges)), first, second)
    return Forked(last_length(one, len(ranges)), first, second)


def steps_of(layers, ranges, choices):
    """The list of the steps of the layers, each with its own choices out of the list."""
    steps = []
    used = 0
    for layer, row in zip(layers, ranges_of(layers, ranges)):
        many = crossing((layer,), row)
        steps.append(step_of(layer, row, choices[used:used + many]))
        used += many
    return steps


def line_back(layers, ranges, line, choices):
    """The line ahead of the first layer, for a line behind the last one."""
    return through(steps_of(layers, ranges, choices), line)


def crossing_pairs(layers, ranges):
    """The list of the ranges of all signals that cross in relu layers, in the order of the choices."""
    found = []
    for layer, row in zip(layers, ranges_of(layers, ranges)):
        if layer[0] == "relu":
            found.extend([pair for pair in row if crosses(pair)])
        elif layer[0] in ("sum", "fork"):
            found.extend(crossing_pairs(layer[1], row) + crossing_pairs(layer[2], row))
    return found


def crossing(layers, ranges):
    """How many signals cross in all relu layers, those in branches included."""
    return len(crossing_pairs(layers, ranges))
