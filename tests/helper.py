"""Random nets and boxes and a few ways to look at them, for the tests."""

import itertools

from wholenet.nets import gives, length_of
from wholenet.numbers import MOST_SIGNAL, UNIT

PLAIN_KINDS = ("dense", "conv", "relu", "clamp", "max", "mean")
BRANCHED_KINDS = ("sum", "fork")


def some_numbers(rng, many, most):
    return tuple(rng.choice((rng.randint(-most, most), rng.randint(-9, 9))) for _ in range(many))


def some_rows(rng, many, size, most):
    return tuple(some_numbers(rng, size, most) for _ in range(many))


def some_layer(rng, n, kind, most=2 * UNIT):
    """A layer of the kind that takes n signals and gives at most 16."""
    if kind == "dense":
        many = rng.randint(1, 4)
        return ("dense", some_rows(rng, many, n, most), some_numbers(rng, many, most))
    if kind == "conv":
        many = rng.randint(1, 2)
        size = rng.randint(max(1, n - 4), n)
        return ("conv", some_rows(rng, many, size, most), some_numbers(rng, many, most), rng.randint(1, 3))
    if kind == "clamp":
        low, high = sorted(some_numbers(rng, 2, 4 * UNIT))
        return ("clamp", low, high)
    if kind == "max":
        return ("max", rng.choice([size for size in range(1, n + 1) if n % size == 0]))
    if kind == "mean":
        return ("mean", rng.choice([size for size in (1, 2, 4, 8, 16) if n % size == 0]))
    if kind == "sum":
        first, length = some_layers(rng, n, PLAIN_KINDS, 2, most)
        second, other = some_layers(rng, n, PLAIN_KINDS, 2, most)
        if other == length:
            return ("sum", first, second)
        return ("sum", first, second + (("dense", some_rows(rng, length, other, most), (7,) * length),))
    if kind == "fork":
        first, length = some_layers(rng, n, PLAIN_KINDS, 2, most)
        second, other = some_layers(rng, n, PLAIN_KINDS, 2, most)
        if length + other <= 16:
            return ("fork", first, second)
    return ("relu",)


def some_layers(rng, n, kinds, most_layers, most=2 * UNIT):
    """A tuple of layers, and how many signals they give."""
    layers = []
    for _ in range(rng.randint(0, most_layers)):
        layers.append(some_layer(rng, n, rng.choice(kinds), most))
        n = gives(layers[-1], n)
    return tuple(layers), n


def some_net(rng, kinds=PLAIN_KINDS + BRANCHED_KINDS, most=2 * UNIT):
    inputs = rng.randint(1, 6)
    return ("net", inputs, some_layers(rng, inputs, kinds, 4, most)[0])


def some_box(rng, inputs, most=8 * UNIT, most_points=64):
    """A box of few points: most of its sides are short, and their places are often around 0 or at the ends."""
    box = []
    points = 1
    for _ in range(inputs):
        longest = most_points // points
        length = rng.choice((1, rng.randint(1, min(3, longest)), rng.randint(1, min(9, longest)), longest))
        points *= length
        low = rng.choice((rng.randint(-most, most), rng.randint(-9, 3), most))
        low = max(-MOST_SIGNAL, min(MOST_SIGNAL - length + 1, low))
        box.append((low, low + length - 1))
    rng.shuffle(box)
    return tuple(box)


def all_points(box):
    """The list of the points of a box."""
    return list(itertools.product(*[range(low, high + 1) for low, high in box]))


def some_inputs(rng, net, most=8 * UNIT):
    return some_numbers(rng, net[1], most)


def weights(layers):
    """All weights and biases of the layers, and all numbers of speeds in their place, in one list."""
    found = []
    for layer in layers:
        if layer[0] in ("dense", "conv"):
            found += [weight for row in layer[1] for weight in row] + list(layer[2])
        elif layer[0] in ("sum", "fork"):
            found += weights(layer[1]) + weights(layer[2])
    return found


def speed_numbers(layers, speeds):
    """All numbers of the speeds of the layers, in the order of the weights."""
    found = []
    for layer, speed in zip(layers, speeds):
        if layer[0] in ("dense", "conv"):
            found += [number for row in speed[0] for number in row] + list(speed[1])
        elif layer[0] in ("sum", "fork"):
            found += speed_numbers(layer[1], speed[0]) + speed_numbers(layer[2], speed[1])
    return found


def gradient_numbers(gradients):
    """All numbers of the gradients of weights with their powers, in the order of the weights."""
    found = []
    for gradient in gradients:
        if gradient and gradient[0] in ("sum", "fork"):
            found += gradient_numbers(gradient[1]) + gradient_numbers(gradient[2])
        elif gradient:
            kind, power, rows, biases = gradient
            found += [(number, power + 1) for row in rows for number in row]
            found += [(number, power) for number in biases]
    return found


def with_weights(layers, numbers):
    """The layers with the numbers of an iterator in place of their weights and biases, in the order of weights()."""
    found = []
    for layer in layers:
        if layer[0] in ("dense", "conv"):
            rows = tuple(tuple(next(numbers) for _ in row) for row in layer[1])
            layer = (layer[0], rows, tuple(next(numbers) for _ in rows)) + layer[3:]
        elif layer[0] in ("sum", "fork"):
            layer = (layer[0], with_weights(layer[1], numbers), with_weights(layer[2], numbers))
        found.append(layer)
    return tuple(found)


def some_entry(rng, net, examples, most=8 * UNIT):
    """An entry that can be applied behind these examples."""
    kind = rng.choice(("data", "step", "step", "step", "freeze", "thaw", "check"))
    loss = rng.choice(("squares", "margins"))
    fit = [at for at, example in enumerate(examples) if isinstance(example[1], tuple) == (loss == "squares")]
    if kind == "step" and fit:
        batch = tuple(rng.choice(fit) for _ in range(rng.randint(1, 4)))
        return ("step", loss, batch, rng.choice((0, 1, 9, UNIT // 8, UNIT)), rng.choice((0, UNIT // 2, UNIT)))
    if kind in ("freeze", "thaw") and net[2]:
        return (kind, rng.randrange(len(net[2])))
    if kind == "check":
        return ("check",)
    many = length_of(net)
    told = []
    for _ in range(rng.randint(0, 3)):
        target = rng.choice((some_numbers(rng, many, most), rng.randrange(many)))
        told.append((some_inputs(rng, net), target))
    return ("data", tuple(told))


def some_log(rng, many=8):
    """A log of a random net with many entries."""
    net = some_net(rng)
    log = [("begin", net)]
    examples = ()
    while len(log) < many:
        log.append(some_entry(rng, net, examples))
        if log[-1][0] == "data":
            examples += log[-1][1]
    return tuple(log)
