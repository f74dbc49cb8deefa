"""Training: examples, the gradients of a batch, and steps."""

from wholenet.gradients import net_gradients
from wholenet.losses import loss_of
from wholenet.nets import length_of, outputs
from wholenet.numbers import MOST_SIGNAL, MOST_WEIGHT, UNIT, are_within, clamped, is_from, rounded, unit_power


def layer_at_rest(layer):
    """The speeds of a layer at the beginning."""
    if layer[0] in ("dense", "conv"):
        rows = tuple([(0,) * len(row) for row in layer[1]])
        return rows, (0,) * len(rows)
    if layer[0] in ("sum", "fork"):
        return layers_at_rest(layer[1]), layers_at_rest(layer[2])
    return ()


def layers_at_rest(layers):
    """The tuple of the speeds of the layers at the beginning."""
    return tuple([layer_at_rest(layer) for layer in layers])


def no_speeds(net):
    """The speeds of a net at the beginning."""
    return layers_at_rest(net[2])


def is_example(net, example):
    """Tells if this is an example for the net."""
    if not isinstance(example, tuple) or len(example) != 2:
        return False
    inputs, target = example
    if not are_within(inputs, net[1], MOST_SIGNAL):
        return False
    many = length_of(net)
    return are_within(target, many, MOST_SIGNAL) or is_from(target, 0, many - 1)


def example_gradients(net, example, loss):
    """The gradients of the weights for one example."""
    inputs, target = example
    return net_gradients(net, inputs, loss_of(loss, outputs(net, inputs), target)[1])


def rows_added(one, other):
    """The sums of the numbers at the same places of two rows."""
    return tuple([number + more for number, more in zip(one, other)])


def layer_added(one, other):
    """The sum of two gradients of the weights of one layer."""
    if len(one) == 0:
        return ()
    if one[0] in ("sum", "fork"):
        return one[0], layers_added(one[1], other[1]), layers_added(one[2], other[2])
    kind, power, rows, biases = one
    rows = tuple([rows_added(row, more) for row, more in zip(rows, other[2])])
    return kind, power, rows, rows_added(biases, other[3])


def layers_added(one, other):
    """The sums of the gradients of the weights, layer by layer."""
    return tuple([layer_added(gradient, more) for gradient, more in zip(one, other)])


def batch_gradients(net, examples, loss, batch):
    """The sum of the gradients of the weights for the examples with the indices in the batch."""
    total = example_gradients(net, examples[batch[0]], loss)
    for index in batch[1:]:
        total = layers_added(total, example_gradients(net, examples[index], loss))
    return total


def row_speeds(speeds, numbers, power, pace):
    """The new speeds of a row; numbers are its gradients, and pace a count, a rate and a drag."""
    count, rate, drag = pace
    scale = count * unit_power(power)
    pushed = [rounded(drag * speed, UNIT) + rounded(rate * number, scale) for speed, number in zip(speeds, numbers)]
    return tuple([clamped(speed, MOST_WEIGHT) for speed in pushed])


def row_moved(weights, speeds):
    """The weights of a row, moved by its speeds."""
    return tuple([clamped(weight - speed, MOST_WEIGHT) for weight, speed in zip(weights, speeds)])


def weighed_moved(layer, speeds, gradient, pace):
    """A dense or conv and its speeds behind a step."""
    kind, power, rows, biases = gradient
    row_moves = tuple([row_speeds(old, row, power + 1, pace) for old, row in zip(speeds[0], rows)])
    bias_moves = row_speeds(speeds[1], biases, power, pace)
    weights = tuple([row_moved(row, moves) for row, moves in zip(layer[1], row_moves)])
    return (kind, weights, row_moved(layer[2], bias_moves)) + layer[3:], (row_moves, bias_moves)


def layer_moved(layer, speeds, gradient, pace):
    """A layer and its speeds behind a step."""
    if layer[0] in ("dense", "conv"):
        return weighed_moved(layer, speeds, gradient, pace)
    if layer[0] in ("sum", "fork"):
        first, first_speeds = layers_moved(layer[1], speeds[0], gradient[1], pace, ())
        second, second_speeds = layers_moved(layer[2], speeds[1], gradient[2], pace, ())
        return (layer[0], first, second), (first_speeds, second_speeds)
    return layer, ()


def layers_moved(layers, speeds, gradients, pace, frozen):
    """The layers and their speeds behind a step; frozen has the indices of those that keep their weights."""
    moved = []
    for at, layer in enumerate(layers):
        if at in frozen:
            moved.append((layer, layer_at_rest(layer)))
        else:
            moved.append(layer_moved(layer, speeds[at], gradients[at], pace))
    return tuple([layer for layer, _ in moved]), tuple([told for _, told in moved])


def trained(net, speeds, gradients, count, rate, drag, frozen):
    """The net and the speeds behind a step with the gradients of a batch of count indices."""
    layers, moves = layers_moved(net[2], speeds, gradients, (count, rate, drag), frozen)
    return (net[0], net[1], layers), moves
