"""Texts of nets: writing and reading them."""

from wholenet.errors import BadNet
from wholenet.nets import KINDS, MEAN_SIZES, MOST_INPUTS, MOST_KERNELS, MOST_LAYERS, MOST_LENGTH, MOST_ROWS
from wholenet.nets import MOST_STRIDE, gives
from wholenet.numbers import MOST_SIGNAL, MOST_WEIGHT, within

MOST_CHARACTERS = 60000
MOST_DIGITS = 9
# A string cannot hold the percent sign here, so it is told by its code.
PERCENT = 37
# How many words a line has, by its first word; those of row and kernel have at least so many.
WORDS = {
    "net": 2,
    "dense": 1,
    "row": 4,
    "conv": 2,
    "kernel": 4,
    "relu": 1,
    "clamp": 3,
    "max": 2,
    "mean": 2,
    "sum": 1,
    "with": 1,
    "fork": 1,
    "end": 1,
    "done": 1,
}
# The word of the lines that belong to a layer.
ROW_WORDS = {"dense": "row", "conv": "kernel"}


def words_line(words):
    """The line of these words, which may be integers."""
    return " ".join([str(word) for word in words])


def layer_lines(layer):
    """The list of the lines of a layer."""
    kind = layer[0]
    if kind in ROW_WORDS:
        word = ROW_WORDS[kind]
        rows = [words_line((word,) + row + ("bias", bias)) for row, bias in zip(layer[1], layer[2])]
        return [words_line((kind,) + layer[3:])] + rows
    if kind in ("sum", "fork"):
        return [kind] + lines_of(layer[1]) + ["with"] + lines_of(layer[2]) + ["end"]
    return [words_line(layer)]


def lines_of(layers):
    """The list of the lines of the layers."""
    lines = []
    for layer in layers:
        lines.extend(layer_lines(layer))
    return lines


def shown(net):
    """The text of a net."""
    lines = [words_line(("net", net[1]))] + lines_of(net[2]) + ["done"]
    return "".join([line + "\n" for line in lines])


def is_allowed(sign):
    """Tells if a text may have this character within a line."""
    return " " <= sign <= "~" and ord(sign) != PERCENT


def words_of(line):
    """The list of the words of a line ahead of its comment."""
    words = []
    for word in line.split():
        if word.startswith("#"):
            break
        words.append(word)
    return words


def is_number(word):
    """Tells if a word is a number."""
    digits = word.removeprefix("-")
    if not digits.isdigit() or len(digits) > MOST_DIGITS:
        return False
    return word == "0" or not digits.startswith("0")


def is_count_right(words):
    """Tells if a line that begins as this one may have as many words."""
    if words[0] in ("row", "kernel"):
        return len(words) >= WORDS[words[0]] and words[-2] == "bias"
    return len(words) == WORDS[words[0]]


def number_words(words):
    """The words in the places of numbers."""
    if words[0] in ("row", "kernel"):
        return words[1:-2] + words[-1:]
    return words[1:]


def is_in_range(word, number):
    """Tells if the number may stand in a line that begins with the word, whatever the lengths are."""
    if word == "net":
        return 1 <= number <= MOST_INPUTS
    if word == "conv":
        return 1 <= number <= MOST_STRIDE
    if word == "max":
        return number >= 1
    if word == "mean":
        return number in MEAN_SIZES
    if word == "clamp":
        return within(number, MOST_SIGNAL)
    return within(number, MOST_WEIGHT)


def numbers_of(line, words):
    """The tuple of the numbers of the line with that number and these words."""
    numbers = []
    for word in number_words(words):
        if not is_number(word):
            raise BadNet(line, "not a number")
        if not is_in_range(words[0], int(word)):
            raise BadNet(line, "number out of range")
        numbers.append(int(word))
    if words[0] == "clamp" and numbers[0] > numbers[1]:
        raise BadNet(line, "number out of range")
    return tuple(numbers)


class Part:
    """The layers of a net, or of a branch of a sum or fork, as far as they are read."""

    def __init__(self, inputs):
        self.inputs = inputs
        self.layers = []
        # How many signals the last layer gives.
        self.length = inputs

    def add_layer(self, line, layer):
        """Puts a layer behind the others; line is its last one."""
        self.layers.append(layer)
        self.length = gives(layer, self.length)
        if self.length > MOST_LENGTH:
            raise BadNet(line, "wrong length")


class Reader:
    """Reads the lines of a net, one after the other."""

    def __init__(self):
        # The net; within a sum or fork the first branch behind it, and then the second one.
        self.parts = []
        self.branching = ""
        # The beginning of a dense or conv whose rows are being read, () if there is none.
        self.head = ()
        self.rows = []
        self.biases = []
        self.row_line = 0
        self.is_done = False

    def read_line(self, line, words):
        """Goes on with the words of the line with that number."""
        if len(self.parts) == 0:
            self.read_first(line, words)
            return
        if not self.is_own(words[0]):
            self.end_rows()
        if words[0] not in WORDS:
            raise BadNet(line, "unknown word")
        if not self.is_in_place(words[0]):
            raise BadNet(line, "word out of place")
        if not is_count_right(words):
            raise BadNet(line, "wrong number of words")
        numbers = numbers_of(line, words)
        if self.is_full(words[0]):
            raise BadNet(line, "too many parts")
        self.add_line(line, words[0], numbers)

    def read_first(self, line, words):
        """Begins with the first line that has words."""
        if words[0] != "net" or len(words) != WORDS["net"]:
            raise BadNet(line, "net expected")
        self.parts.append(Part(numbers_of(line, words)[0]))

    def is_own(self, word):
        """Tells if a line with this first word belongs to the layer whose rows are being read."""
        return self.head != () and ROW_WORDS[self.head[0]] == word

    def is_in_place(self, word):
        """Tells if a line may begin with this word here."""
        if self.is_done:
            return False
        if self.head != ():
            return self.is_own(word)
        if word in ("sum", "fork", "done"):
            return len(self.parts) == 1
        if word == "with":
            return len(self.parts) == 2
        if word == "end":
            return len(self.parts) == 3
        return word in KINDS

    def is_full(self, word):
        """Tells if there is no place for a further line or layer that begins with this word."""
        if word == "row":
            return len(self.rows) == MOST_ROWS
        if word == "kernel":
            return len(self.rows) == MOST_KERNELS
        return word in KINDS and len(self.parts[-1].layers) == MOST_LAYERS

    def add_line(self, line, word, numbers):
        """Takes in a line in which only lengths can still be wrong."""
        if word in ("row", "kernel"):
            self.add_row(line, word, numbers)
        elif word in ROW_WORDS:
            self.head = (word,) + numbers
        elif word in ("sum", "fork"):
            self.branching = word
            self.parts.append(Part(self.parts[0].length))
        elif word == "with":
            self.parts.append(Part(self.parts[0].length))
        elif word == "end":
            self.end_branches(line)
        elif word == "done":
            self.is_done = True
        else:
            self.add_plain(line, (word,) + numbers)

    def add_row(self, line, word, numbers):
        """Takes in a row or a kernel: its weights and its bias."""
        size = len(numbers) - 1
        length = self.parts[-1].length
        if size > length or (word == "row" and size < length):
            raise BadNet(line, "wrong length")
        if len(self.rows) > 0 and len(self.rows[0]) != size:
            raise BadNet(line, "wrong length")
        self.rows.append(numbers[:-1])
        self.biases.append(numbers[-1])
        self.row_line = line

    def add_plain(self, line, layer):
        """Takes in a layer that has one line."""
        part = self.parts[-1]
        if layer[0] in ("max", "mean") and part.length % layer[1] != 0:
            raise BadNet(line, "wrong length")
        part.add_layer(line, layer)

    def end_rows(self):
        """Ends a dense or conv, if one has a row."""
        if len(self.rows) == 0:
            return
        layer = (self.head[0], tuple(self.rows), tuple(self.biases)) + self.head[1:]
        self.head = ()
        self.rows = []
        self.biases = []
        self.parts[-1].add_layer(self.row_line, layer)

    def end_branches(self, line):
        """Ends a sum or fork."""
        second = self.parts.pop()
        first = self.parts.pop()
        if self.branching == "sum" and first.length != second.length:
            raise BadNet(line, "wrong length")
        layer = (self.branching, tuple(first.layers), tuple(second.layers))
        self.parts[0].add_layer(line, layer)

    def ended(self, line):
        """The net, if it is done; line is the one in which the text ends."""
        self.end_rows()
        if not self.is_done:
            raise BadNet(line, "done expected")
        return ("net", self.parts[0].inputs, tuple(self.parts[0].layers))


def parse(text):
    """The net of a text."""
    if len(text) > MOST_CHARACTERS:
        raise BadNet(1, "text too long")
    lines = text.split("\n")
    for at, line in enumerate(lines):
        if not all(is_allowed(sign) for sign in line):
            raise BadNet(at + 1, "character not allowed")
    reader = Reader()
    for at, line in enumerate(lines):
        words = words_of(line)
        if len(words) > 0:
            reader.read_line(at + 1, words)
    return reader.ended(len(lines))
