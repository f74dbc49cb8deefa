"""The points j1, j3 and j4 of DOC.md once more, written down word by word, to hold the package against."""

from wholenet.nets import places
from wholenet.numbers import MOST_SIGNAL, UNIT, clamped, rounded


def weighed_ends(row, bias, ranges):
    """Both ends of the range of an output of a dense, ahead of the clamping."""
    low = sum(weight * (pair[0] if weight >= 0 else pair[1]) for weight, pair in zip(row, ranges))
    high = sum(weight * (pair[1] if weight >= 0 else pair[0]) for weight, pair in zip(row, ranges))
    return rounded(low, UNIT) + bias, rounded(high, UNIT) + bias


def rows_as_dense(layer, n):
    """The rows and biases of a conv as those of a dense over all n signals, with 0 outside of the kernel."""
    if layer[0] == "dense":
        return list(zip(layer[1], layer[2]))
    kind, kernels, biases, stride = layer
    found = []
    for kernel, bias in zip(kernels, biases):
        for place in places(len(kernel), stride, n):
            found.append(((0,) * place + kernel + (0,) * (n - place - len(kernel)), bias))
    return found


def both_clamped(pair):
    return clamped(pair[0], MOST_SIGNAL), clamped(pair[1], MOST_SIGNAL)


def plain_ranges(layer, ranges):
    if layer[0] in ("dense", "conv"):
        return [both_clamped(weighed_ends(row, bias, ranges)) for row, bias in rows_as_dense(layer, len(ranges))]
    if layer[0] == "relu":
        return [(max(low, 0), max(high, 0)) for low, high in ranges]
    if layer[0] == "clamp":
        low, high = layer[1:]
        return [tuple(low if end < low else high if end > high else end for end in pair) for pair in ranges]
    size = layer[1]
    windows = [ranges[at:at + size] for at in range(0, len(ranges), size)]
    if layer[0] == "max":
        return [(max(low for low, high in window), max(high for low, high in window)) for window in windows]
    return [tuple(rounded(sum(ends), size) for ends in zip(*window)) for window in windows]


def ranges_of(layers, ranges):
    rows = [ranges]
    for layer in layers:
        if layer[0] in ("sum", "fork"):
            one, other = ranges_of(layer[1], rows[-1])[-1], ranges_of(layer[2], rows[-1])[-1]
            if layer[0] == "fork":
                rows.append(one + other)
            else:
                rows.append(tuple(both_clamped((a[0] + b[0], a[1] + b[1])) for a, b in zip(one, other)))
        else:
            rows.append(tuple(plain_ranges(layer, rows[-1])))
    return rows


def crossing(layers, ranges):
    many = 0
    for layer, row in zip(layers, ranges_of(layers, ranges)):
        if layer[0] == "relu":
            many += sum(low < 0 and high > 0 for low, high in row)
        if layer[0] in ("sum", "fork"):
            many += crossing(layer[1], row) + crossing(layer[2], row)
    return many


def relu_back(ranges, line, choices):
    scale, factors, constant = line
    crosses = [low < 0 and high > 0 for low, high in ranges]
    if not any(crosses):
        return scale, tuple(c if high > 0 else 0 for c, (low, high) in zip(factors, ranges)), constant
    scale, constant, told, choices = scale * UNIT, constant * UNIT, [], list(choices)
    for c, (low, high), cross in zip(factors, ranges, crosses):
        choice = choices.pop(0) if cross else None
        if not cross:
            told.append(UNIT * c if high > 0 else 0)
        elif c >= 0:
            told.append(UNIT * c if choice == 1 else 0)
        else:
            a = 0
            while a * (high - low) < high * UNIT:
                a += 1
            told.append(c * a)
            constant += -c * a * low
    return scale, tuple(told), constant


def max_back(size, ranges, line):
    scale, factors, constant = line
    told = [0] * len(ranges)
    for j, c in enumerate(factors):
        window = range(j * size, j * size + size)
        firsts = [i for i in window if all(ranges[i][0] >= ranges[o][1] for o in window if o != i)]
        if firsts:
            told[firsts[0]] = c
        elif c >= 0:
            told[max(window, key=lambda i: (ranges[i][0], -i))] = c
        else:
            constant += c * max(ranges[i][1] for i in window)
    return scale, tuple(told), constant


def plain_back(layer, ranges, line, choices):
    scale, factors, constant = line
    if layer[0] == "relu":
        return relu_back(ranges, line, choices)
    if layer[0] == "max":
        return max_back(layer[1], ranges, line)
    told = [0] * len(ranges)
    if layer[0] == "mean":
        size = layer[1]
        constant = constant * size - sum(size // 2 * abs(c) for c in factors)
        return scale * size, tuple(factors[i // size] for i in range(len(ranges))), constant
    if layer[0] == "clamp":
        for i, (c, (low, high)) in enumerate(zip(factors, ranges)):
            if low >= layer[1] and high <= layer[2]:
                told[i] = c
            else:
                constant += c * max(layer[1], min(layer[2], low if c >= 0 else high))
        return scale, tuple(told), constant
    constant = constant * UNIT
    for c, (row, bias) in zip(factors, rows_as_dense(layer, len(ranges))):
        ends = weighed_ends(row, bias, ranges)
        if both_clamped(ends) == ends:
            told = [t + c * weight for t, weight in zip(told, row)]
            constant += c * UNIT * bias - UNIT // 2 * abs(c)
        else:
            constant += UNIT * c * both_clamped(ends)[0 if c >= 0 else 1]
    return scale * UNIT, tuple(told), constant


def branches_back(layer, ranges, line, choices):
    scale, factors, constant = line
    one, other = ranges_of(layer[1], ranges)[-1], ranges_of(layer[2], ranges)[-1]
    firsts, seconds = factors[:len(one)], factors[len(one):]
    if layer[0] == "sum":
        let = []
        for c, a, b in zip(factors, one, other):
            ends = (a[0] + b[0], a[1] + b[1])
            if both_clamped(ends) == ends:
                let.append(c)
            else:
                let.append(0)
                constant += c * both_clamped(ends)[0 if c >= 0 else 1]
        firsts = seconds = tuple(let)
    many = crossing(layer[1], ranges)
    first_scale, first, first_constant = line_back(layer[1], ranges, (1, firsts, 0), choices[:many])
    second_scale, second, second_constant = line_back(layer[2], ranges, (1, seconds, 0), choices[many:])
    constant *= first_scale * second_scale
    constant += first_constant * second_scale + second_constant * first_scale
    both = tuple(a * second_scale + b * first_scale for a, b in zip(first, second))
    return scale * first_scale * second_scale, both, constant


def line_back(layers, ranges, line, choices):
    if not layers:
        return line
    rows = ranges_of(layers, ranges)
    many = crossing(layers[:-1], ranges)
    action = branches_back if layers[-1][0] in ("sum", "fork") else plain_back
    line = action(layers[-1], rows[-2], line, choices[many:])
    return line_back(layers[:-1], ranges, line, choices[:many])
