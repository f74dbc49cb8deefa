"""Two nets: whether they agree on a box, and nets without the signals that do nothing there."""

from wholenet.boxes import check_box
from wholenet.decide import decide
from wholenet.errors import BadNet
from wholenet.nets import MOST_LENGTH, length_of
from wholenet.ranges import ranges_of


def has_branches(net):
    """Tells if a net has a sum or a fork."""
    return any([layer[0] in ("sum", "fork") for layer in net[2]])


def joined(first, second):
    """The net that gives what the first net gives and behind it what the second one gives."""
    if first[1] != second[1] or length_of(first) != length_of(second):
        raise BadNet(0, "nets are unlike")
    if has_branches(first) or has_branches(second):
        raise BadNet(0, "nets have branches")
    if length_of(first) + length_of(second) > MOST_LENGTH:
        raise BadNet(0, "not a net")
    return "net", first[1], (("fork", first[2], second[2]),)


def agree(first, second, box, distance, fuel=1000):
    """The answer to whether the outputs of two nets differ by at most the distance on the box."""
    return decide(joined(first, second), box, ("near", distance), fuel)


def is_pruned_at(layers, at):
    """Tells if a dense layer stands at the index, followed by a relu and another dense layer."""
    return [layer[0] for layer in layers[at:at + 3]] == ["dense", "relu", "dense"]


def picked(row, kept):
    """The items of a row with the kept indices."""
    return tuple([row[index] for index in kept])


def pruned_at(layers, at, box):
    """The layers without the outputs of the dense layer at the index that do nothing on the box."""
    ranges = ranges_of(layers[:at + 1], box)[-1]
    kept = [index for index, (low, high) in enumerate(ranges) if high > 0]
    if len(kept) == 0:
        # A dense layer has at least one output.
        kept = [0]
    kind, rows, biases = layers[at]
    first = (kind, picked(rows, kept), picked(biases, kept))
    kind, rows, biases = layers[at + 2]
    second = (kind, tuple([picked(row, kept) for row in rows]), biases)
    return layers[:at] + (first, layers[at + 1], second) + layers[at + 3:]


def prune(net, box):
    """The net without the signals that do nothing on the box."""
    check_box(net, box)
    layers = net[2]
    for at in range(len(layers)):
        if is_pruned_at(layers, at):
            layers = pruned_at(layers, at, box)
    return net[0], net[1], layers
