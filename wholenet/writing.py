"""Written logs: lists of integers from 0 to 255."""

from wholenet.errors import BadEntry, BadNumbers
from wholenet.numbers import is_from
from wholenet.replay import begun, first_state, go_on

CHARACTERS = "\n !\"#$&'()*+,-./0123456789:;<=>?@ABCDEFGHIJKLMNOPQRSTUVWXYZ[\\]^_`abcdefghijklmnopqrstuvwxyz{|}~"
MARK = 76
TUPLE = 0
STRING = 1
INTEGER = 2
MOST_DIGITS = 10
MOST_DEPTH = 12
# The greatest prime below 2 to the 16.
MODULUS = 65521


def count_numbers(count):
    """The numbers of a count: its digits in base 128, the lowest first."""
    numbers = []
    while count >= 128:
        numbers.append(128 + count % 128)
        count = count // 128
    numbers.append(count)
    return numbers


def thing_numbers(thing):
    """The numbers of a thing made of tuples, strings and integers."""
    if isinstance(thing, tuple):
        numbers = [TUPLE] + count_numbers(len(thing))
        for part in thing:
            numbers.extend(thing_numbers(part))
        return numbers
    if isinstance(thing, str):
        return [STRING] + count_numbers(len(thing)) + [CHARACTERS.index(sign) for sign in thing]
    return [INTEGER] + count_numbers(2 * thing if thing >= 0 else -2 * thing - 1)


def sum_numbers(body):
    """The two numbers behind the body of an entry."""
    total = sum([(at + 1) * number for at, number in enumerate(body)]) % MODULUS
    return [total // 256, total - total // 256 * 256]


def write_entry(entry, state):
    """The written entry; state is that at its place."""
    body = thing_numbers(("check", state) if entry[0] == "check" else entry)
    return [MARK] + count_numbers(len(body)) + body + sum_numbers(body)


def write_log(log):
    """The written log."""
    state = begun(log)
    numbers = write_entry(log[0], state)
    for at, entry in enumerate(log[1:], start=1):
        state = go_on(state, (entry,), at)
        numbers.extend(write_entry(entry, state))
    return numbers


class Reader:
    """What is read of a list of numbers, from the index at on; BadNumbers where it can't be read."""

    def __init__(self, numbers, at):
        self.numbers = numbers
        self.at = at

    def number(self, most):
        """The next number, from 0 to most."""
        if self.at >= len(self.numbers) or not is_from(self.numbers[self.at], 0, most):
            raise BadNumbers(self.at)
        self.at += 1
        return self.numbers[self.at - 1]

    def told_count(self):
        """The next count."""
        count = 0
        scale = 1
        for place in range(MOST_DIGITS):
            digit = self.number(255)
            if digit < 128:
                # A last digit of 0 makes a count longer than it need be.
                if digit == 0 and place > 0:
                    raise BadNumbers(self.at)
                return count + digit * scale
            count = count + (digit - 128) * scale
            scale = scale * 128
        raise BadNumbers(self.at)

    def thing(self, depth):
        """The next thing, which stands within so many tuples."""
        kind = self.number(INTEGER)
        count = self.told_count()
        if kind == INTEGER:
            return count // 2 if count % 2 == 0 else -(count // 2) - 1
        if kind == STRING:
            return "".join([CHARACTERS[self.number(len(CHARACTERS) - 1)] for _ in range(count)])
        if depth == MOST_DEPTH:
            raise BadNumbers(self.at)
        return tuple([self.thing(depth + 1) for _ in range(count)])


def body_ends(numbers, at):
    """Where the body of the entry that begins at an index begins and ends."""
    reader = Reader(numbers, at)
    if reader.number(255) != MARK:
        raise BadNumbers(at)
    length = reader.told_count()
    return reader.at, reader.at + length


def whole_thing(numbers, at):
    """The thing in the body of the entry that begins at an index, and where the entry ends."""
    start, end = body_ends(numbers, at)
    reader = Reader(numbers, start)
    thing = reader.thing(0)
    if reader.at != end or [reader.number(255), reader.number(255)] != sum_numbers(numbers[start:end]):
        raise BadNumbers(at)
    return thing, reader.at


def behind_thing(state, thing, place):
    """The entry that is written as the thing, and the state behind it; state is () ahead of the first entry."""
    if place == 0:
        return thing, first_state(thing, 0)
    if isinstance(thing, tuple) and len(thing) > 0 and thing[0] == "check":
        if thing != ("check", state):
            raise BadEntry(place)
        return ("check",), go_on(state, (("check",),), place)
    return thing, go_on(state, (thing,), place)


def mended(numbers):
    """The log of the longest beginning that is a written log, and how many numbers that is."""
    log = []
    state = ()
    kept = 0
    while kept < len(numbers):
        try:
            thing, end = whole_thing(numbers, kept)
            entry, state = behind_thing(state, thing, len(log))
        except (BadNumbers, BadEntry):
            break
        log.append(entry)
        kept = end
    return tuple(log), kept


def read_log(numbers):
    """The log of a written log; raises BadNumbers for other lists."""
    log, many = mended(numbers)
    if len(log) == 0 or many < len(numbers):
        raise BadNumbers(many)
    return log


def resume(numbers):
    """The state of a written log, by its last check and the entries behind it."""
    beginning = [TUPLE, 2] + thing_numbers("check")
    starts = []
    last = 0
    at = 0
    while at < len(numbers):
        start, end = body_ends(numbers, at)
        if numbers[start:start + len(beginning)] == beginning:
            last = len(starts)
        starts.append(start)
        at = end + 2
    first = Reader(numbers, starts[last]).thing(0)
    state = first_state(first, 0) if last == 0 else first[1]
    return go_on(state, tuple([Reader(numbers, start).thing(0) for start in starts[last + 1:]]), last + 1)
