"""Whole numbers: the bounds, rounding, clamping and the dot of two rows."""

UNIT = 4096
# 2 to the 20 and 2 to the 24.
MOST_WEIGHT = 1048576
MOST_SIGNAL = 16777216


def is_whole(thing):
    """Tells if this is an integer."""
    # Python takes True and False for integers; here they are none.
    return isinstance(thing, int) and not isinstance(thing, bool)


def is_from(thing, low, high):
    """Tells if this is an integer from low to high."""
    return is_whole(thing) and low <= thing <= high


def are_within(thing, count, most):
    """Tells if this is a tuple of so many integers, all within most."""
    if not isinstance(thing, tuple) or len(thing) != count:
        return False
    return all(is_from(number, -most, most) for number in thing)


def unit_power(power):
    """UNIT to the power."""
    product = 1
    for _ in range(power):
        product = product * UNIT
    return product


def rounded(a, b):
    """The integer nearest to a divided by b; of two as near the even one."""
    below, rest = divmod(a, b)
    if 2 * rest > b or (2 * rest == b and below % 2 == 1):
        return below + 1
    return below


def clamped(x, most):
    """The number x, but at most most and at least -most."""
    if x > most:
        return most
    if x < -most:
        return -most
    return x


def within(x, most):
    """Tells if clamping to most leaves x as it is."""
    return clamped(x, most) == x


def dot(a, b):
    """The sum of the products of the items at the same places."""
    return sum([one * other for one, other in zip(a, b)])
