"""Deciding: a demand on a box holds, with a paper, or fails at inputs that are told."""

from wholenet.boxes import check_box, halves, many_points, points_of
from wholenet.errors import BadBox
from wholenet.judge import MOST_POINTS, first_failing, hold_by_ranges, holds_at, parts_of
from wholenet.lines import crossing_pairs, steps_of, through
from wholenet.numbers import MOST_SIGNAL, are_within, clamped
from wholenet.ranges import worst

# Words of what is still to be done: a box to look at, or the papers of two halves to put together.
LOOK = "look"
JOIN = "join"


def some_choices(layers, box):
    """A tuple of choices for the signals that cross: of the two bounds the one that is nearer."""
    return tuple([1 if high > -low else 0 for low, high in crossing_pairs(layers, box)])


def corner_of(line, box):
    """The point of the box at which a line at the inputs is least."""
    scale, factors, constant = line
    return tuple([worst(factor, side) for factor, side in zip(factors, box)])


def middle_of(box):
    """A point in the middle of the box."""
    return tuple([(low + high) // 2 for low, high in box])


def told_by_lines(net, box, parts):
    """What lines tell of a box: an answer, or () if they tell nothing; they tell of points that may fail, too."""
    choices = some_choices(net[2], box)
    steps = steps_of(net[2], box, list(choices))
    doubtful = [middle_of(box)]
    for factors, bound in parts:
        line = through(steps, (1, factors, 0))
        if not holds_at(line, box, bound):
            doubtful.append(corner_of(line, box))
    if len(doubtful) == 1:
        return "holds", ("lines", choices)
    point = first_failing(net, doubtful, parts)
    return ("fails", point) if len(point) > 0 else ()


def told_by_points(net, box, parts):
    """What all points tell of a small box."""
    point = first_failing(net, points_of(box), parts)
    return ("fails", point) if len(point) > 0 else ("holds", ("points",))


def told_of(net, box, parts):
    """The answer for a box that is looked at, () if it has to be divided."""
    if hold_by_ranges(net, box, parts):
        return "holds", ("plain",)
    told = told_by_lines(net, box, parts)
    if len(told) == 0 and many_points(box) <= MOST_POINTS:
        return told_by_points(net, box, parts)
    return told


def middle_cut(box):
    """The index of the widest side of a box, and its middle."""
    lengths = [high - low for low, high in box]
    at = lengths.index(max(lengths))
    return at, sum(box[at]) // 2


def decided(net, box, parts, fuel):
    """The answer for a box, with fuel for so many boxes that are looked at."""
    # A list of what is still to be done, the last one first, since boxes may be divided deeper than calls can be.
    waiting = [(LOOK, box)]
    papers = []
    looked = 0
    while len(waiting) > 0:
        task = waiting.pop()
        if task[0] == JOIN:
            right = papers.pop()
            left = papers.pop()
            papers.append(("split", task[1], task[2], left, right))
            continue
        if looked >= fuel:
            return ("open",)
        looked += 1
        told = told_of(net, task[1], parts)
        if len(told) == 0:
            at, cut = middle_cut(task[1])
            lower, upper = halves(task[1], at, cut)
            waiting.extend([(JOIN, at, cut), (LOOK, upper), (LOOK, lower)])
        elif told[0] == "fails":
            return told
        else:
            papers.append(told[1])
    return "holds", papers[0]


def decide(net, box, demand, fuel=1000):
    """An answer: ("holds", paper), ("fails", inputs), or ("open",) if there was too little fuel."""
    check_box(net, box)
    return decided(net, box, parts_of(net, demand), fuel)


def box_around(inputs, r):
    """The box of all inputs that differ by at most r from these."""
    return tuple([(clamped(x - r, MOST_SIGNAL), clamped(x + r, MOST_SIGNAL)) for x in inputs])


def distance(inputs, others):
    """By how much the inputs differ at most."""
    return max([abs(x - other) for x, other in zip(inputs, others)])


def radius(net, inputs, demand, *, most, fuel=1000):
    """The greatest r up to most for which the demand holds around the inputs, with a paper and with broken inputs."""
    if not are_within(inputs, net[1], MOST_SIGNAL):
        raise BadBox()
    parts = parts_of(net, demand)
    # Greater boxes have no more points.
    reach = min(most, 2 * MOST_SIGNAL)
    # The demand holds on the box of holding and fails on that of failing; -1 and reach + 1 stand for no box.
    holding = -1
    failing = reach + 1
    paper = ()
    broken = ()
    while failing - holding > 1:
        # Small boxes first: they need less fuel.
        r = min(2 * holding + 2, (holding + failing) // 2)
        told = decided(net, box_around(inputs, r), parts, fuel)
        if told[0] == "open":
            return ("open",)
        if told[0] == "holds":
            holding, paper = r, told[1]
        else:
            failing, broken = distance(inputs, told[1]), told[1]
    return "radius", most if holding == reach else holding, paper, broken
