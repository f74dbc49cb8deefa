"""The judge: the parts of demands, and which papers hold."""

from wholenet.boxes import check_box, halves, many_points, points_of
from wholenet.errors import BadDemand
from wholenet.lines import crossing, steps_of, through
from wholenet.nets import length_of, outputs
from wholenet.numbers import are_within, dot, is_from
from wholenet.ranges import last_ranges, least

# 2 to the 40.
MOST_DEMAND = 1099511627776
MOST_POINTS = 64


def row_with(n, plus, minus):
    """A row of n factors: 1 at the index plus, -1 at minus, otherwise 0."""
    row = [0] * n
    row[plus] = 1
    row[minus] = -1
    return tuple(row)


def class_parts(n, k):
    """The parts of a demand for the class k of n outputs."""
    # An output ahead of k must be less than that at k, one behind it may be equal.
    return [(row_with(n, k, other), 1 if other < k else 0) for other in range(n) if other != k]


def near_parts(n, distance):
    """The parts of a demand that the halves of n outputs are near each other."""
    half = n // 2
    parts = []
    for at in range(half):
        parts.append((row_with(n, at, half + at), -distance))
        parts.append((row_with(n, half + at, at), -distance))
    return parts


def parts_of(net, demand):
    """The list of the parts of a demand on what the net gives."""
    n = length_of(net)
    if not isinstance(demand, tuple):
        raise BadDemand()
    if len(demand) == 3 and demand[0] == "least":
        kind, factors, bound = demand
        if are_within(factors, n, MOST_DEMAND) and is_from(bound, -MOST_DEMAND, MOST_DEMAND):
            return [(factors, bound)]
    if len(demand) == 2 and demand[0] == "class" and is_from(demand[1], 0, n - 1):
        return class_parts(n, demand[1])
    if len(demand) == 2 and demand[0] == "near" and n % 2 == 0 and is_from(demand[1], 0, MOST_DEMAND):
        return near_parts(n, demand[1])
    raise BadDemand()


def meets_parts(net, inputs, parts):
    """Tells if the outputs at these inputs meet every part."""
    y = outputs(net, inputs)
    return all(dot(factors, y) >= bound for factors, bound in parts)


def meets(net, inputs, demand):
    """Tells if the outputs at these inputs meet the demand."""
    return meets_parts(net, inputs, parts_of(net, demand))


def hold_by_ranges(net, box, parts):
    """Tells if every part holds on the box by ranges."""
    ranges = last_ranges(net[2], box)
    return all(least(factors, ranges) >= bound for factors, bound in parts)


def holds_at(line, box, bound):
    """Tells if a line at the inputs says that its part is at least the bound on the whole box."""
    scale, factors, constant = line
    return least(factors, box) + constant >= scale * bound


def hold_by_lines(net, box, parts, choices):
    """Tells if every part holds on the box by lines with these choices."""
    steps = steps_of(net[2], box, choices)
    return all(holds_at(through(steps, (1, factors, 0)), box, bound) for factors, bound in parts)


def first_failing(net, points, parts):
    """The first of the points at which some part is not met, () if there is none."""
    for point in points:
        if not meets_parts(net, point, parts):
            return point
    return ()


def are_choices(net, box, thing):
    """Tells if this is a tuple with as many 0 and 1 as signals cross."""
    if not isinstance(thing, tuple) or not all(is_from(choice, 0, 1) for choice in thing):
        return False
    return len(thing) == crossing(net[2], box)


def is_split(box, paper):
    """Tells if this is a split that divides the box."""
    if not isinstance(paper, tuple) or len(paper) != 5 or paper[0] != "split":
        return False
    kind, at, cut, left, right = paper
    return is_from(at, 0, len(box) - 1) and is_from(cut, box[at][0], box[at][1] - 1)


def leaf_holds(net, box, parts, paper):
    """Tells if a paper that is no split holds."""
    if paper == ("plain",):
        return hold_by_ranges(net, box, parts)
    if paper == ("points",):
        return many_points(box) <= MOST_POINTS and len(first_failing(net, points_of(box), parts)) == 0
    if isinstance(paper, tuple) and len(paper) == 2 and paper[0] == "lines" and are_choices(net, box, paper[1]):
        return hold_by_lines(net, box, parts, list(paper[1]))
    return False


def judge(net, box, demand, paper):
    """Tells if the paper holds for the net, the box and the demand."""
    check_box(net, box)
    parts = parts_of(net, demand)
    # A list of what is still to be looked at, since splits may be deeper than calls can be.
    waiting = [(box, paper)]
    while len(waiting) > 0:
        piece, told = waiting.pop()
        if is_split(piece, told):
            kind, at, cut, left, right = told
            lower, upper = halves(piece, at, cut)
            waiting.append((lower, left))
            waiting.append((upper, right))
        elif not leaf_holds(net, piece, parts, told):
            return False
    return True
