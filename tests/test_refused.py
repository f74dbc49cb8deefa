"""Promises n9 and n10: which texts of nets are refused, with which line and reason."""

import random
import unittest

from tests.helper import some_net
from tests.test_texts import TextCase
from wholenet.errors import BadNet
from wholenet.nets import check_net
from wholenet.texts import parse, shown

REASONS = (
    "net expected", "unknown word", "word out of place", "wrong number of words", "not a number",
    "number out of range", "too many parts", "wrong length", "done expected",
)


class LinesCase(TextCase):
    """Texts are told here by their lines, parted by "|"."""

    def bad(self, told, line, reason):
        self.refused(told.replace("|", "\n"), line, reason)

    def good(self, told):
        net = parse(told.replace("|", "\n"))
        check_net(net)
        return net


class NetExpected(LinesCase):
    def test_another_word(self):
        for word in ("foo", "dense", "done", "row 1 bias 2", "nets 1", "Net 1", "bias 1", "1", "with", "end"):
            self.bad(word, 1, "net expected")
            self.bad("#||" + word + "|done", 3, "net expected")

    def test_another_number_of_words(self):
        for line in ("net", "net 1 2", "net x y", "net # 1", "net 99 1"):
            self.bad(line + "|done", 1, "net expected")

    def test_one_word_of_any_kind_behind_net(self):
        self.bad("net x|done", 1, "not a number")
        self.bad("net 0|done", 1, "number out of range")
        self.good("net 1|done")


class UnknownWord(LinesCase):
    def test_unknown_words(self):
        for word in ("bias", "Relu", "relus", "foo 1", "1", "-1", "bias 3", "-", "relu,", "nets"):
            self.bad("net 1|" + word + "|done", 2, "unknown word")
            self.bad("net 1|sum|" + word + "|done", 3, "unknown word")
            self.bad("net 1|sum|with|" + word + "|done", 4, "unknown word")

    def test_ahead_of_word_out_of_place(self):
        self.bad("net 1|done|foo", 3, "unknown word")
        self.bad("net 1|dense|bias 1", 3, "unknown word")
        self.bad("net 1|conv 1|foo", 3, "unknown word")

    def test_behind_rows(self):
        self.bad("net 1|dense|row 1 bias 1|foo", 4, "unknown word")
        self.bad("net 1|conv 1|kernel 1 bias 1|foo", 4, "unknown word")


class WordOutOfPlace(LinesCase):
    def place(self, told, line):
        self.bad(told, line, "word out of place")

    def test_net_again(self):
        self.place("net 1|net 1", 2)
        self.place("net 1|relu|net", 3)
        self.place("net 1|sum|net 1 2 3", 3)
        self.place("net 1|dense|row 1 bias 1|net 1", 4)

    def test_rows_without_their_layer(self):
        for word in ("row", "kernel"):
            self.place(f"net 1|{word} 1 bias 1", 2)
            self.place(f"net 1|relu|{word} 1 bias 1", 3)
            self.place(f"net 1|sum|{word} 1 bias 1", 3)
            self.place(f"net 1|sum|with|{word} 1 bias 1", 4)
            self.place(f"net 1|dense|row 1 bias 1|relu|{word} 1 bias 1", 5)
            self.place(f"net 1|sum|dense|row 1 bias 1|with|{word} 1 bias 1", 6)
            self.place(f"net 1|sum|with|conv 1|kernel 1 bias 1|end|{word} 1 bias 1", 7)
            self.place(f"net 1|done|{word} 1 bias 1", 3)

    def test_rows_of_the_other_kind(self):
        self.place("net 1|dense|kernel 1 bias 1", 3)
        self.place("net 1|conv 1|row 1 bias 1", 3)
        self.place("net 1|dense|row 1 bias 1|kernel 1 bias 1", 4)
        self.place("net 1|conv 1|kernel 1 bias 1|row 1 bias 1", 4)
        self.good("net 1|dense|row 1 bias 1|row 1 bias 1|conv 1|kernel 1 bias 1|kernel 1 bias 1|done")

    def test_layers_without_rows(self):
        words = ("net 1", "dense", "conv 1", "relu", "clamp 1 2", "max 1", "mean 1", "sum", "with", "fork", "end", "done")
        for word in words:
            self.place("net 1|dense|" + word, 3)
            self.place("net 1|conv 1|" + word, 3)
            self.place("net 1|sum|dense|" + word, 4)
            self.place("net 1|sum|with|conv 1|" + word, 5)
        self.place("net 1|dense|kernel 1 bias 1", 3)
        self.place("net 1|conv 1|row 1 bias 1", 3)

    def test_with(self):
        for kind in ("sum", "fork"):
            self.place(f"net 1|{kind}|with|with", 4)
            self.place(f"net 1|{kind}|relu|with|relu|with", 6)
            self.place(f"net 1|{kind}|with|end|with", 5)
            self.place(f"net 1|{kind}|with|dense|row 1 bias 1|with", 6)
            self.good(f"net 1|{kind}|dense|row 1 bias 1|with|end|done")
        self.place("net 1|with", 2)
        self.place("net 1|relu|with", 3)
        self.place("net 1|dense|row 1 bias 1|with", 4)

    def test_end(self):
        for kind in ("sum", "fork"):
            self.place(f"net 1|{kind}|end", 3)
            self.place(f"net 1|{kind}|relu|end", 4)
            self.place(f"net 1|{kind}|with|end|end", 5)
            self.place(f"net 1|{kind}|dense|row 1 bias 1|end", 5)
            self.good(f"net 1|{kind}|with|dense|row 1 bias 1|end|done")
        self.place("net 1|end", 2)
        self.place("net 1|dense|row 1 bias 1|end", 4)

    def test_sum_and_fork_within_one(self):
        for kind in ("sum", "fork"):
            for inner in ("sum", "fork"):
                self.place(f"net 1|{kind}|{inner}", 3)
                self.place(f"net 1|{kind}|relu|with|relu|{inner}", 6)
                self.good(f"net 1|{kind}|with|end|{inner}|with|end|done")

    def test_done_within_one(self):
        for kind in ("sum", "fork"):
            self.place(f"net 1|{kind}|done", 3)
            self.place(f"net 1|{kind}|with|done", 4)
            self.place(f"net 1|{kind}|with|dense|row 1 bias 1|done", 6)

    def test_anything_behind_done(self):
        for word in ("net 1", "dense", "row 1 bias 1", "conv 1", "relu", "max 1", "sum", "with", "end", "done", "clamp"):
            self.place("net 1|done|" + word, 3)
            self.place("net 1|relu|done|#|" + word, 5)
        self.good("net 1|done|#||# done")

    def test_ahead_of_the_number_of_words(self):
        self.place("net 1|net", 2)
        self.place("net 1|row", 2)
        self.place("net 1|with 1", 2)
        self.place("net 1|conv 1|max", 3)
        self.place("net 1|sum|fork 1", 3)


class NumberOfWords(LinesCase):
    def words(self, line):
        self.bad("net 2|" + line + "|done", 2, "wrong number of words")

    def test_lines_of_one_word(self):
        for word in ("dense", "relu", "sum", "fork", "done"):
            self.words(word + " 1")
            self.words(word + " " + word)
        self.bad("net 1|sum|with 1|end", 3, "wrong number of words")
        self.bad("net 1|sum|with|end 1", 4, "wrong number of words")

    def test_lines_of_two_and_three_words(self):
        for word in ("conv", "max", "mean"):
            self.words(word)
            self.words(word + " 1 1")
        self.words("clamp")
        self.words("clamp 1")
        self.words("clamp 1 2 3")
        self.good("net 2|max 1|mean 1|clamp 1 2|conv 1|kernel 1 bias 1|done")

    def test_rows_and_kernels(self):
        for head in ("dense|row", "conv 1|kernel"):
            for behind in ("", " 1", " 1 2", " bias", " bias 1", " 1 bias", " 1 2 3", " 1 2 bias", " 1 bias 2 3",
                           " 1 2 bais 3", " 1 2 3 4", " bias 1 2", " 1 Bias 2", " 1 bias 2 bias"):
                self.bad("net 1|" + head + behind, 3, "wrong number of words")
            self.good("net 1|" + head + " 1 bias 2|done")

    def test_bias_in_the_place_of_a_number(self):
        for head in ("dense|row", "conv 1|kernel"):
            for behind in (" bias bias 1", " 1 bias bias", " bias 1 bias 2", " 1 bias 2 bias 3"):
                self.bad("net 1|" + head + behind, 3, "not a number")

    def test_ahead_of_what_is_no_number(self):
        self.words("clamp x")
        self.words("max x x")
        self.words("conv x y")
        self.bad("net 1|dense|row x y 3", 3, "wrong number of words")
        self.bad("net 1|dense|row 1048577 bias", 3, "wrong number of words")


class NotANumber(LinesCase):
    NONE = ("-0", "00", "01", "-01", "+1", "--1", "-", "1-", "x", "1.0", "1e3", "0x1", "1_0", "1,", "bias", "row",
            "1234567890", "0000000000", "-1234567890", "9" * 4400, "'1'", "-+1", "1#")

    def test_in_each_place(self):
        for word in self.NONE:
            self.bad(f"net {word}", 1, "not a number")
            self.bad(f"net 1|conv {word}", 2, "not a number")
            self.bad(f"net 1|max {word}", 2, "not a number")
            self.bad(f"net 1|mean {word}", 2, "not a number")
            self.bad(f"net 1|clamp {word} 1", 2, "not a number")
            self.bad(f"net 1|clamp 1 {word}", 2, "not a number")
            for head in ("dense|row", "conv 1|kernel"):
                self.bad(f"net 1|{head} {word} bias 1", 3, "not a number")
                self.bad(f"net 1|{head} 1 bias {word}", 3, "not a number")
                self.bad(f"net 3|{head} 1 2 {word} bias 1", 3, "not a number")

    def test_numbers(self):
        for word in ("0", "1", "-1", "10", "-10", "900000", "-900000", "1000000"):
            net = self.good(f"net 1|dense|row {word} bias {word}|done")
            self.assertEqual(net[2][0], ("dense", ((int(word),),), (int(word),)))

    def test_nine_digits_are_a_number(self):
        self.bad("net 1|clamp -999999999 1", 2, "number out of range")
        self.bad("net 1|max 999999999", 2, "wrong length")
        self.bad("net 1|max 9999999999", 2, "not a number")

    def test_the_first_wrong_word_decides(self):
        self.bad("net 1|clamp x 16777217", 2, "not a number")
        self.bad("net 1|clamp 16777217 x", 2, "number out of range")
        self.bad("net 1|clamp 3 x", 2, "not a number")
        for head in ("dense|row", "conv 1|kernel"):
            self.bad(f"net 1|{head} 1048577 x bias 1", 3, "number out of range")
            self.bad(f"net 1|{head} x 1048577 bias 1", 3, "not a number")
            self.bad(f"net 1|{head} 1 bias 1048577", 3, "number out of range")
            self.bad(f"net 1|{head} 1048577 bias x", 3, "number out of range")
            self.bad(f"net 1|{head} 1 x bias 1048577", 3, "not a number")


class OutOfRange(LinesCase):
    def range(self, told, line):
        self.bad(told, line, "number out of range")

    def test_inputs(self):
        for number in (0, -1, 17, 999999999):
            self.range(f"net {number}|done", 1)
        for number in (1, 16):
            self.good(f"net {number}|done")

    def test_stride(self):
        for number in (0, -1, 65, 999999999):
            self.range(f"net 1|conv {number}", 2)
        for number in (1, 64):
            self.good(f"net 1|conv {number}|kernel 1 bias 1|done")

    def test_sizes(self):
        for number in (0, -1):
            self.range(f"net 2|max {number}", 2)
        for number in (-1, 0, 3, 5, 15, 17, 63, 65, 128, 999999999):
            self.range(f"net 15|mean {number}", 2)
        for number in (1, 2, 4, 8, 16):
            self.good(f"net 16|mean {number}|done")
        self.bad("net 16|mean 32", 2, "wrong length")
        self.good("net 16|conv 1|kernel 1 bias 0|kernel 1 bias 0|mean 32|done")
        self.good("net 16|conv 1" + "|kernel 1 bias 0" * 4 + "|mean 64|done")

    def test_clamp(self):
        self.range("net 1|clamp -16777217 0", 2)
        self.range("net 1|clamp 0 16777217", 2)
        self.range("net 1|clamp 1 0", 2)
        self.range("net 1|clamp -3 -4", 2)
        self.good("net 1|clamp -16777216 16777216|clamp 0 0|clamp -4 -3|clamp 5 5|done")

    def test_weights_and_biases(self):
        for head in ("dense|row", "conv 1|kernel"):
            for word in ("1048577", "-1048577", "999999999", "-999999999"):
                self.range(f"net 1|{head} {word} bias 1", 3)
                self.range(f"net 1|{head} 1 bias {word}", 3)
            self.good(f"net 1|{head} 1048576 bias -1048576|done")
            self.good(f"net 1|{head} -1048576 bias 1048576|done")


class TooManyParts(LinesCase):
    def parts(self, told, line):
        self.bad(told, line, "too many parts")

    def test_layers_of_the_net(self):
        twelve = "net 2" + "|relu" * 12
        self.good(twelve + "|done")
        for line in ("relu", "dense", "conv 1", "clamp 1 2", "max 1", "mean 1", "sum", "fork"):
            self.parts(twelve + "|" + line, 14)
        self.parts("net 2" + "|sum|with|end" * 12 + "|relu", 38)
        self.parts("net 1" + "|dense|row 1 bias 1" * 12 + "|dense", 26)

    def test_layers_of_branches(self):
        for kind in ("sum", "fork"):
            head = f"net 1|relu|{kind}"
            twelve = "|relu" * 12
            self.good(head + twelve + "|with" + twelve + "|end" + "|relu" * 10 + "|done")
            for line in ("relu", "dense", "conv 1", "clamp 1 2", "max 1", "mean 1"):
                self.parts(head + twelve + "|" + line, 16)
                self.parts(head + twelve + "|with" + twelve + "|" + line, 29)
                self.parts(head + "|with" + twelve + "|" + line, 17)

    def test_a_sum_counts_once(self):
        self.good("net 1" + ("|sum" + "|relu" * 12 + "|with|end") * 12 + "|done")

    def test_rows(self):
        rows = "|row 1 2 bias 3" * 16
        self.assertEqual(len(self.good("net 2|dense" + rows + "|done")[2][0][1]), 16)
        self.parts("net 2|dense" + rows + "|row 1 2 bias 3", 19)
        self.good("net 2|dense" + rows + "|dense|row" + " 1" * 16 + " bias 3|done")

    def test_kernels(self):
        kernels = "|kernel 1 2 bias 3" * 4
        self.assertEqual(len(self.good("net 2|conv 1" + kernels + "|done")[2][0][1]), 4)
        self.parts("net 2|conv 1" + kernels + "|kernel 1 2 bias 3", 7)
        self.good("net 2|conv 1" + kernels + "|conv 1|kernel 1 2 bias 3|done")

    def test_behind_what_is_wrong_with_numbers(self):
        twelve = "net 2" + "|relu" * 12
        self.bad(twelve + "|max", 14, "wrong number of words")
        self.bad(twelve + "|max x", 14, "not a number")
        self.bad(twelve + "|max 0", 14, "number out of range")
        self.bad("net 1|dense" + "|row 1 bias 1" * 16 + "|row x bias 1", 19, "not a number")
        self.bad("net 1|dense" + "|row 1 bias 1" * 16 + "|row 1 bias 1048577", 19, "number out of range")

    def test_ahead_of_wrong_lengths(self):
        self.parts("net 3" + "|relu" * 12 + "|max 2", 14)
        self.parts("net 2|dense" + "|row 1 2 bias 3" * 16 + "|row 1 bias 3", 19)
        self.parts("net 2|conv 1" + "|kernel 1 2 bias 3" * 4 + "|kernel 1 2 3 bias 3", 7)

    def test_behind_a_word_out_of_place(self):
        self.bad("net 2" + "|relu" * 12 + "|with", 14, "word out of place")
        self.bad("net 2|sum" + "|relu" * 12 + "|fork", 15, "word out of place")


class WrongLength(LinesCase):
    def length(self, told, line):
        self.bad(told, line, "wrong length")

    def test_rows(self):
        self.length("net 2|dense|row 1 bias 3", 3)
        self.length("net 2|dense|row 1 2 3 bias 3", 3)
        self.length("net 2|dense|row 1 2 bias 3|row 1 bias 3", 4)
        self.length("net 2|dense|row 1 2 bias 3|dense|row 1 2 bias 3", 5)
        self.good("net 2|dense|row 1 2 bias 3|row 1 2 bias 3|dense|row 1 2 bias 3|done")

    def test_kernels(self):
        self.length("net 2|conv 1|kernel 1 2 3 bias 3", 3)
        self.length("net 2|conv 1|kernel 1 2 bias 3|kernel 1 bias 3", 4)
        self.length("net 2|conv 1|kernel 1 bias 3|kernel 1 2 bias 3", 4)
        self.good("net 2|conv 1|kernel 1 bias 3|kernel 1 bias 3|conv 1|kernel 1 2 3 4 bias 5|done")

    def test_windows(self):
        self.length("net 3|max 2", 2)
        self.length("net 3|max 6", 2)
        self.length("net 3|mean 2", 2)
        self.length("net 1|mean 64", 2)
        self.length("net 4|max 2|mean 4", 3)
        self.good("net 6|max 3|mean 2|max 1|done")

    def test_branches_of_a_sum(self):
        self.length("net 2|sum|max 2|with|end", 5)
        self.length("net 2|sum|with|max 2|end|done", 5)
        self.length("net 2|sum|dense|row 1 2 bias 1|with|dense|row 1 2 bias 1|row 1 2 bias 1|end", 9)
        self.good("net 2|sum|max 2|with|mean 2|end|done")
        self.good("net 2|fork|max 2|with|end|done")

    def test_branches_begin_with_what_both_take(self):
        self.good("net 4|max 2|fork|max 2|with|dense|row 1 2 bias 3|end|dense|row 1 2 bias 3|done")
        self.length("net 4|max 2|fork|max 2|with|dense|row 1 bias 3", 7)
        self.length("net 4|max 2|fork|max 2|with|max 4", 6)

    def test_a_fork_of_more_than_sixty_four(self):
        wide = "conv 1|kernel 1 bias 0|kernel 1 bias 0"
        self.good(f"net 16|fork|{wide}|with|{wide}|end|done")
        self.length(f"net 16|fork|{wide}|kernel 1 bias 0|with|{wide}|end|done", 11)
        self.length(f"net 16|{wide}|fork|with|end|fork|with|end", 10)
        self.length(f"net 16|{wide}|fork|with|end|fork|with|#|end|done|foo", 11)


class WideConv(LinesCase):
    """A conv that gives more than 64 signals."""

    # 16 inputs become 64 signals, by the lines 2 to 6; two kernels of a conv over these are too many.
    WIDE = "net 16|conv 1" + "|kernel 1 bias 0" * 4

    def length(self, told, line):
        self.bad(told, line, "wrong length")

    def test_sixty_four_are_let(self):
        self.good(self.WIDE + "|done")
        self.good(self.WIDE + "|conv 1|kernel 1 bias 0|done")
        self.good(self.WIDE + "|conv 2|kernel 1 bias 0|kernel 1 bias 0|done")
        self.good(self.WIDE + "|conv 2|kernel 1 1 bias 0|kernel 1 1 bias 0|done")

    def test_told_at_the_last_kernel(self):
        head = self.WIDE + "|conv 1|kernel 1 bias 0|kernel 1 bias 0"
        self.length(head + "|done", 9)
        self.length(head + "|relu|done", 9)
        self.length(head + "|#||done", 9)
        self.length(head + "|#|kernel 1 bias 0|done", 11)
        self.length(self.WIDE + "|conv 1|kernel 1 1 bias 0|kernel 1 1 bias 0|done", 9)

    def test_ahead_of_what_is_wrong_in_the_next_line(self):
        head = self.WIDE + "|conv 1|kernel 1 bias 0|kernel 1 bias 0|"
        for line in ("foo", "bias", "net 1", "row 1 bias 0", "with", "end", "max", "max x", "mean 3", "max 7", "relu 1"):
            self.length(head + line, 9)

    def test_when_the_text_ends(self):
        head = self.WIDE + "|conv 1|kernel 1 bias 0|kernel 1 bias 0"
        self.length(head, 9)
        self.length(head + "|", 9)
        self.length(head + "|# done|", 9)
        self.bad(self.WIDE + "|conv 1|kernel 1 bias 0", 8, "done expected")

    def test_a_further_kernel_is_looked_at_before(self):
        head = self.WIDE + "|conv 1|kernel 1 bias 0|kernel 1 bias 0|"
        self.bad(head + "kernel 1 bias", 10, "wrong number of words")
        self.bad(head + "kernel x bias 0", 10, "not a number")
        self.bad(head + "kernel 1 bias 1048577", 10, "number out of range")
        self.bad(head + "kernel 1 1 bias 0", 10, "wrong length")
        self.bad(head + "kernel 1 bias 0|kernel 1 bias 0|kernel 1 bias 0", 12, "too many parts")
        self.length(head + "kernel 1 bias 0|kernel 1 bias 0|foo", 11)

    def test_within_branches(self):
        for kind in ("sum", "fork"):
            head = self.WIDE + f"|{kind}|conv 1|kernel 1 bias 0|kernel 1 bias 0"
            self.length(head + "|mean 2|with|end|done", 10)
            self.length(head + "|with", 10)
            self.length(head, 10)
            head = self.WIDE + f"|{kind}|with|conv 1|kernel 1 bias 0|kernel 1 bias 0"
            self.length(head + "|end", 11)
            self.length(head + "|foo", 11)

    def test_ahead_of_the_thirteenth_layer(self):
        wide = self.WIDE + "|relu" * 10 + "|conv 1|kernel 1 bias 0|kernel 1 bias 0"
        self.length(wide + "|relu", 19)
        self.length(wide + "|relu x", 19)


class DoneExpected(LinesCase):
    def done(self, told, line):
        self.bad(told, line, "done expected")

    def test_nothing(self):
        self.done("", 1)
        self.refused("\n", 2, "done expected")
        self.done("# net 1", 1)
        self.done("   ", 1)

    def test_a_net_that_is_not_ended(self):
        self.done("net 1", 1)
        self.done("net 1|", 2)
        self.done("net 1||#|", 4)
        self.done("net 1|relu|# done", 3)

    def test_within_layers_and_branches(self):
        for told in ("dense", "conv 1", "dense|row 1 bias 1", "conv 1|kernel 1 bias 1", "sum", "sum|with",
                     "sum|with|end", "fork|relu", "fork|relu|with|dense", "fork|with|dense|row 1 bias 1"):
            self.done("net 1|" + told, told.count("|") + 2)
            self.done("net 1|" + told + "|", told.count("|") + 3)

    def test_another_fault_comes_first(self):
        self.bad("net 1|foo", 2, "unknown word")
        self.bad("net 1|sum|relu|end", 4, "word out of place")


class FirstFault(LinesCase):
    def test_the_first_line_is_told(self):
        self.bad("net 1|relu|max 2|foo|done", 3, "wrong length")
        self.bad("net 1|foo|max 2", 2, "unknown word")
        self.bad("net 17|foo", 1, "number out of range")

    def test_spoiled_texts(self):
        """Whatever is read is a net, and all else is refused with a line of the text and a reason."""
        rng = random.Random(11)
        counts = dict.fromkeys(REASONS + ("read",), 0)
        for _ in range(4000):
            lines = shown(some_net(rng)).split("\n")
            for _ in range(rng.randint(1, 2)):
                self.spoil(rng, lines)
            text = "\n".join(lines)
            try:
                net = parse(text)
                check_net(net)
                self.assertEqual(parse(shown(net)), net)
                counts["read"] += 1
            except BadNet as wrong:
                self.assertIn(wrong.reason, REASONS)
                self.assertTrue(1 <= wrong.line <= len(lines), text)
                counts[wrong.reason] += 1
        self.assertEqual([reason for reason in counts if counts[reason] == 0 and reason != "too many parts"], [])

    def spoil(self, rng, lines):
        at = rng.randrange(len(lines))
        words = lines[at].split()
        way = rng.randrange(5)
        if way == 0:
            del lines[at]
            lines.append("")
        elif way == 1:
            lines.insert(at, rng.choice(lines))
        elif way == 2:
            lines[at] += rng.choice((" 1", " x", " bias", "0", "x"))
        elif words:
            words[rng.randrange(len(words))] = rng.choice(
                ("0", "1", "-1", "x", "1048577", "bias", "row", "sum", "with", "end", "done", "relu", "foo"))
            lines[at] = " ".join(words)


if __name__ == "__main__":
    unittest.main()
