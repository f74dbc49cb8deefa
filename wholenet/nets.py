"""Nets: what their layers give, and which things are nets."""

from wholenet.errors import BadNet
from wholenet.numbers import MOST_SIGNAL, MOST_WEIGHT, UNIT, are_within, clamped, dot, is_from, is_whole, rounded

MOST_INPUTS = 16
MOST_LAYERS = 12
MOST_LENGTH = 64
MOST_ROWS = 16
MOST_KERNELS = 4
MOST_STRIDE = 64
MEAN_SIZES = (1, 2, 4, 8, 16, 32, 64)

# A branch is the first or the second of a sum or fork.
BRANCH_KINDS = ("dense", "conv", "relu", "clamp", "max", "mean")
KINDS = ("dense", "conv", "relu", "clamp", "max", "mean", "sum", "fork")
# How many parts the tuple of a layer has, its kind counted.
PARTS = {"dense": 3, "conv": 4, "relu": 1, "clamp": 3, "max": 2, "mean": 2, "sum": 3, "fork": 3}


def places(size, stride, n):
    """The list of the places of a kernel of that size among n signals."""
    return list(range(0, n - size + 1, stride))


def windows(x, size):
    """The list of the windows of that size, one behind the other."""
    return [x[at:at + size] for at in range(0, len(x), size)]


def cells(layer, n):
    """A pair for each signal of a dense or conv that takes n signals: the index of its row and its place."""
    many = len(layer[1])
    if layer[0] == "dense":
        return [(row, 0) for row in range(many)]
    return [(row, place) for row in range(many) for place in places(len(layer[1][0]), layer[3], n)]


def weighed(row, bias, x):
    """What a row and its bias make of the signals x, ahead of the clamping."""
    return rounded(dot(row, x), UNIT) + bias


def dense_signals(layer, x):
    """The signals of a dense layer."""
    kind, rows, biases = layer
    return tuple([clamped(weighed(row, bias, x), MOST_SIGNAL) for row, bias in zip(rows, biases)])


def conv_signals(layer, x):
    """The signals of a conv layer: all places of one kernel, then those of the next."""
    kind, kernels, biases, stride = layer
    size = len(kernels[0])
    pieces = [x[place:place + size] for place in places(size, stride, len(x))]
    row = []
    for kernel, bias in zip(kernels, biases):
        row.extend([clamped(weighed(kernel, bias, piece), MOST_SIGNAL) for piece in pieces])
    return tuple(row)


def relu_signals(layer, x):
    """The signals of a relu layer."""
    return tuple([max(0, signal) for signal in x])


def clamp_signals(layer, x):
    """The signals of a clamp layer."""
    kind, low, high = layer
    return tuple([max(low, min(high, signal)) for signal in x])


def max_signals(layer, x):
    """The signals of a max layer."""
    return tuple([max(window) for window in windows(x, layer[1])])


def mean_signals(layer, x):
    """The signals of a mean layer."""
    size = layer[1]
    return tuple([rounded(sum(window), size) for window in windows(x, size)])


def sum_signals(layer, x):
    """The signals of a sum: those of both branches, added."""
    kind, first, second = layer
    ones = last_row(first, x)
    others = last_row(second, x)
    return tuple([clamped(one + other, MOST_SIGNAL) for one, other in zip(ones, others)])


def fork_signals(layer, x):
    """The signals of a fork: those of the first branch, then those of the second."""
    kind, first, second = layer
    return last_row(first, x) + last_row(second, x)


SIGNALS = {
    "dense": dense_signals,
    "conv": conv_signals,
    "relu": relu_signals,
    "clamp": clamp_signals,
    "max": max_signals,
    "mean": mean_signals,
    "sum": sum_signals,
    "fork": fork_signals,
}


def layer_signals(layer, x):
    """The tuple of the signals that a layer gives for the signals x."""
    action = SIGNALS[layer[0]]
    return action(layer, x)


def rows_of(layers, x):
    """The list of x and of what each of the layers gives, one behind the other."""
    rows = [x]
    for layer in layers:
        rows.append(layer_signals(layer, rows[-1]))
    return rows


def last_row(layers, x):
    """What the last of the layers gives; x if there is none."""
    return rows_of(layers, x)[-1]


def signals(net, x):
    """The list of the rows: x itself, then what each layer of the net gives."""
    return rows_of(net[2], x)


def outputs(net, x):
    """The tuple of the signals that the net gives for the inputs x."""
    return last_row(net[2], x)


def class_of(row):
    """The index of the greatest signal; of several equal ones the first."""
    return row.index(max(row))


def gives(layer, n):
    """The number of signals that a layer gives for n signals."""
    kind = layer[0]
    if kind == "dense":
        return len(layer[1])
    if kind == "conv":
        return len(layer[1]) * len(places(len(layer[1][0]), layer[3], n))
    if kind in ("max", "mean"):
        return n // layer[1]
    if kind == "sum":
        return last_length(layer[1], n)
    if kind == "fork":
        return last_length(layer[1], n) + last_length(layer[2], n)
    return n


def last_length(layers, n):
    """The number of signals that the last of the layers gives; n if there is none."""
    length = n
    for layer in layers:
        length = gives(layer, length)
    return length


def length_of(net):
    """The number of signals that the net gives."""
    return last_length(net[2], net[1])


def are_rows(rows, biases, length, most):
    """Tells if these are 1 to most rows of that length, and as many biases."""
    if not isinstance(rows, tuple) or not 1 <= len(rows) <= most:
        return False
    if not are_within(biases, len(rows), MOST_WEIGHT):
        return False
    return all(are_within(row, length, MOST_WEIGHT) for row in rows)


def is_dense(layer, n):
    """Tells if a dense layer takes n signals and has nothing wrong in it."""
    kind, rows, biases = layer
    return are_rows(rows, biases, n, MOST_ROWS)


def is_conv(layer, n):
    """Tells the same of a conv layer."""
    kind, kernels, biases, stride = layer
    if not is_from(stride, 1, MOST_STRIDE) or not isinstance(kernels, tuple) or len(kernels) == 0:
        return False
    if not isinstance(kernels[0], tuple) or not 1 <= len(kernels[0]) <= n:
        return False
    return are_rows(kernels, biases, len(kernels[0]), MOST_KERNELS)


def is_relu(layer, n):
    """Tells the same of a relu layer, in which nothing can be wrong."""
    return True


def is_clamp(layer, n):
    """Tells the same of a clamp layer."""
    kind, low, high = layer
    return is_from(low, -MOST_SIGNAL, MOST_SIGNAL) and is_from(high, low, MOST_SIGNAL)


def is_max(layer, n):
    """Tells the same of a max layer."""
    size = layer[1]
    return is_from(size, 1, n) and n % size == 0


def is_mean(layer, n):
    """Tells the same of a mean layer."""
    size = layer[1]
    return is_whole(size) and size in MEAN_SIZES and n % size == 0


def are_branches(layer, n):
    """Tells if the two branches of a sum or fork take n signals and have nothing wrong in them."""
    kind, first, second = layer
    return are_layers(first, n, BRANCH_KINDS) and are_layers(second, n, BRANCH_KINDS)


def is_sum(layer, n):
    """Tells if the branches are such, and give as many signals."""
    return are_branches(layer, n) and last_length(layer[1], n) == last_length(layer[2], n)


CHECKS = {
    "dense": is_dense,
    "conv": is_conv,
    "relu": is_relu,
    "clamp": is_clamp,
    "max": is_max,
    "mean": is_mean,
    "sum": is_sum,
    "fork": are_branches,
}


def is_layer(thing, n, kinds):
    """Tells if this is a layer of one of the kinds that takes n signals."""
    if not isinstance(thing, tuple) or len(thing) == 0 or thing[0] not in kinds:
        return False
    if len(thing) != PARTS[thing[0]]:
        return False
    check = CHECKS[thing[0]]
    return check(thing, n) and gives(thing, n) <= MOST_LENGTH


def are_layers(thing, n, kinds):
    """Tells if this is a tuple of layers of the kinds, the first of which takes n signals."""
    if not isinstance(thing, tuple) or len(thing) > MOST_LAYERS:
        return False
    length = n
    for layer in thing:
        if not is_layer(layer, length, kinds):
            return False
        length = gives(layer, length)
    return True


def is_net(thing):
    """Tells if this is a net."""
    if not isinstance(thing, tuple) or len(thing) != 3:
        return False
    kind, inputs, layers = thing
    return kind == "net" and is_from(inputs, 1, MOST_INPUTS) and are_layers(layers, inputs, KINDS)


def check_net(net):
    """Returns None for a net, and raises BadNet for any other thing."""
    if not is_net(net):
        raise BadNet(0, "not a net")
