"""Gradients and tangents: pairs of a power and numbers, each standing for itself divided by UNIT to the power."""

from wholenet.nets import cells, last_length, last_row, rows_of, weighed, windows
from wholenet.numbers import MOST_SIGNAL, UNIT, dot, unit_power, within


def raised(pair, power):
    """The pair brought to a power that is at least its own."""
    factor = unit_power(power - pair[0])
    return power, tuple([number * factor for number in pair[1]])


def aligned(one, other):
    """Both pairs, brought to the greater power."""
    power = max(one[0], other[0])
    return raised(one, power), raised(other, power)


def added(one, other):
    """The sum of two pairs, at the greater power."""
    (power, numbers), (_, others) = aligned(one, other)
    return power, tuple([number + more for number, more in zip(numbers, others)])


def let_weighed(layer, x, numbers):
    """The tuple of the numbers of a dense or conv, but 0 where its signal is clamped."""
    size = len(layer[1][0])
    let = []
    for (row, place), number in zip(cells(layer, len(x)), numbers):
        signal = weighed(layer[1][row], layer[2][row], x[place:place + size])
        let.append(number if within(signal, MOST_SIGNAL) else 0)
    return tuple(let)


def let_sum(layer, x, numbers):
    """The tuple of the numbers of a sum, but 0 where its signal is clamped."""
    let = []
    for one, other, number in zip(last_row(layer[1], x), last_row(layer[2], x), numbers):
        let.append(number if within(one + other, MOST_SIGNAL) else 0)
    return tuple(let)


def origins(layer, x):
    """For each signal of a relu, clamp or max the index of the one in x that it comes from, -1 if from none."""
    kind = layer[0]
    if kind == "relu":
        return [at if signal > 0 else -1 for at, signal in enumerate(x)]
    if kind == "clamp":
        return [at if layer[1] <= signal <= layer[2] else -1 for at, signal in enumerate(x)]
    return [at * layer[1] + window.index(max(window)) for at, window in enumerate(windows(x, layer[1]))]


def weighed_tangent(layer, x, pair):
    """The tangent of a dense or conv."""
    power, numbers = pair
    size = len(layer[1][0])
    dots = [dot(layer[1][row], numbers[place:place + size]) for row, place in cells(layer, len(x))]
    return power + 1, let_weighed(layer, x, dots)


def mean_tangent(layer, x, pair):
    """The tangent of a mean."""
    power, numbers = pair
    factor = UNIT // layer[1]
    return power + 1, tuple([sum(window) * factor for window in windows(numbers, layer[1])])


def picked_tangent(layer, x, pair):
    """The tangent of a relu, clamp or max."""
    power, numbers = pair
    return power, tuple([numbers[origin] if origin >= 0 else 0 for origin in origins(layer, x)])


def sum_tangent(layer, x, pair):
    """The tangent of a sum."""
    power, numbers = added(layers_tangent(layer[1], x, pair), layers_tangent(layer[2], x, pair))
    return power, let_sum(layer, x, numbers)


def fork_tangent(layer, x, pair):
    """The tangent of a fork."""
    one, other = aligned(layers_tangent(layer[1], x, pair), layers_tangent(layer[2], x, pair))
    return one[0], one[1] + other[1]


TANGENTS = {
    "dense": weighed_tangent,
    "conv": weighed_tangent,
    "relu": picked_tangent,
    "clamp": picked_tangent,
    "max": picked_tangent,
    "mean": mean_tangent,
    "sum": sum_tangent,
    "fork": fork_tangent,
}


def tangent(layer, x, pair):
    """The tangent of what the layer gives, for a tangent of the signals x."""
    action = TANGENTS[layer[0]]
    return action(layer, x, pair)


def layers_tangent(layers, x, pair):
    """The tangent of what the last of the layers gives, for a tangent of the signals x."""
    for layer, row in zip(layers, rows_of(layers, x)):
        pair = tangent(layer, row, pair)
    return pair


def weighed_back(layer, x, pair):
    """The gradient ahead of a dense or conv."""
    power, numbers = pair
    total = [0] * len(x)
    for (row, place), number in zip(cells(layer, len(x)), let_weighed(layer, x, numbers)):
        for at, weight in enumerate(layer[1][row]):
            total[place + at] += weight * number
    return power + 1, tuple(total)


def mean_back(layer, x, pair):
    """The gradient ahead of a mean."""
    power, numbers = pair
    size = layer[1]
    return power + 1, tuple([number * (UNIT // size) for number in numbers for _ in range(size)])


def picked_back(layer, x, pair):
    """The gradient ahead of a relu, clamp or max."""
    power, numbers = pair
    found = [0] * len(x)
    for origin, number in zip(origins(layer, x), numbers):
        if origin >= 0:
            found[origin] = number
    return power, tuple(found)


def branch_pairs(layer, x, pair):
    """What the two branches of a sum or fork get of a gradient of its signals."""
    power, numbers = pair
    if layer[0] == "sum":
        let = (power, let_sum(layer, x, numbers))
        return let, let
    many = last_length(layer[1], len(x))
    return (power, numbers[:many]), (power, numbers[many:])


def branches_back(layer, x, pair):
    """The gradient ahead of a sum or fork."""
    one, other = branch_pairs(layer, x, pair)
    return added(layers_back(layer[1], x, one), layers_back(layer[2], x, other))


BACKS = {
    "dense": weighed_back,
    "conv": weighed_back,
    "relu": picked_back,
    "clamp": picked_back,
    "max": picked_back,
    "mean": mean_back,
    "sum": branches_back,
    "fork": branches_back,
}


def back(layer, x, pair):
    """The gradient of the signals x, for a gradient of what the layer gives for them."""
    action = BACKS[layer[0]]
    return action(layer, x, pair)


def pairs_back(layers, x, pair):
    """The list of the gradients of x and of what each of the layers gives, for one of the last of them."""
    rows = rows_of(layers, x)
    pairs = [pair]
    for at in reversed(range(len(layers))):
        pairs.append(back(layers[at], rows[at], pairs[-1]))
    return pairs[::-1]


def layers_back(layers, x, pair):
    """The gradient of the signals x, for a gradient of what the last of the layers gives."""
    return pairs_back(layers, x, pair)[0]


def weighed_gradient(layer, x, pair):
    """The gradients of the weights and biases of a dense or conv."""
    power, numbers = pair
    size = len(layer[1][0])
    rows = [[0] * size for _ in layer[1]]
    biases = [0] * len(rows)
    for (row, place), number in zip(cells(layer, len(x)), let_weighed(layer, x, numbers)):
        biases[row] += number
        for at in range(size):
            rows[row][at] += number * x[place + at]
    return layer[0], power, tuple([tuple(row) for row in rows]), tuple(biases)


def weight_gradient(layer, x, pair):
    """The gradients of the weights of a layer, for a gradient of what it gives for the signals x."""
    if layer[0] in ("dense", "conv"):
        return weighed_gradient(layer, x, pair)
    if layer[0] in ("sum", "fork"):
        one, other = branch_pairs(layer, x, pair)
        return layer[0], layers_gradients(layer[1], x, one), layers_gradients(layer[2], x, other)
    return ()


def layers_gradients(layers, x, pair):
    """The tuple of the gradients of the weights, layer by layer."""
    rows = rows_of(layers, x)
    pairs = pairs_back(layers, x, pair)
    return tuple([weight_gradient(layer, rows[at], pairs[at + 1]) for at, layer in enumerate(layers)])


def net_tangent(net, x, pair):
    """The tangent of the outputs, for a tangent of the inputs x."""
    return layers_tangent(net[2], x, pair)


def net_back(net, x, pair):
    """The gradient of the inputs x, for a gradient of the outputs."""
    return layers_back(net[2], x, pair)


def net_gradients(net, x, pair):
    """The tuple of the gradients of the weights, layer by layer, for a gradient of the outputs."""
    return layers_gradients(net[2], x, pair)
