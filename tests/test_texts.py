"""Promises n7 and n8: the text of a net, and what means nothing in one."""

import random
import unittest

from tests.helper import some_net
from wholenet.errors import BadNet
from wholenet.nets import check_net
from wholenet.texts import parse, shown

PERCENT = chr(37)
ALL_KINDS = (
    "net", 4, (
        ("conv", ((1, -2), (30, 0)), (5, -1048576), 2),
        ("dense", ((1, 2, 3, 4),) * 4, (-1, 0, 1, 1048576)),
        ("relu",),
        ("clamp", -16777216, 16777216),
        ("sum", (("max", 1), ("mean", 4)), (("dense", ((9, 8, 7, 6),), (0,)),)),
        ("fork", (), (("relu",),)),
    ),
)
ALL_KINDS_TEXT = """net 4
conv 2
kernel 1 -2 bias 5
kernel 30 0 bias -1048576
dense
row 1 2 3 4 bias -1
row 1 2 3 4 bias 0
row 1 2 3 4 bias 1
row 1 2 3 4 bias 1048576
relu
clamp -16777216 16777216
sum
max 1
mean 4
with
dense
row 9 8 7 6 bias 0
end
fork
with
relu
end
done
"""
# A short text, and the net that it is of.
SHORT = "net 2\nclamp -3 4\ndone\n"
SHORT_NET = ("net", 2, (("clamp", -3, 4),))


class TextCase(unittest.TestCase):
    def refused(self, text, line, reason):
        with self.assertRaises(BadNet) as caught:
            parse(text)
        self.assertEqual((caught.exception.line, caught.exception.reason), (line, reason), text[:500])


class Shown(TextCase):
    def test_every_kind_of_layer(self):
        check_net(ALL_KINDS)
        self.assertEqual(shown(ALL_KINDS), ALL_KINDS_TEXT)

    def test_nets_without_layers(self):
        self.assertEqual(shown(("net", 1, ())), "net 1\ndone\n")
        self.assertEqual(shown(("net", 16, ())), "net 16\ndone\n")

    def test_empty_branches(self):
        self.assertEqual(shown(("net", 1, (("sum", (), ()),))), "net 1\nsum\nwith\nend\ndone\n")
        self.assertEqual(shown(("net", 1, (("fork", (("relu",),), ()),))), "net 1\nfork\nrelu\nwith\nend\ndone\n")

    def test_layers_that_follow_each_other(self):
        net = ("net", 1, (("dense", ((1,),), (2,)), ("dense", ((3,),), (4,)), ("conv", ((5,),), (6,), 64)))
        told = "net 1\ndense\nrow 1 bias 2\ndense\nrow 3 bias 4\nconv 64\nkernel 5 bias 6\ndone\n"
        self.assertEqual(shown(net), told)
        self.assertEqual(parse(told), net)

    def test_may_be_longer_than_what_is_read(self):
        wide = ("conv", ((1,),) * 4, (0,) * 4, 1)
        rows = ("dense", ((-1048576,) * 64,) * 16, (-1048576,) * 16)
        net = ("net", 16, (("sum", (wide, rows) * 6, (wide, rows) * 6),))
        check_net(net)
        text = shown(net)
        self.assertEqual(text.count("row -1048576 "), 192)
        self.refused(text, 1, "text too long")


class Parsed(TextCase):
    def test_every_kind_of_layer(self):
        net = parse(ALL_KINDS_TEXT)
        self.assertEqual(net, ALL_KINDS)

    def test_what_is_read_is_made_of_tuples(self):
        net = parse(ALL_KINDS_TEXT)
        hash(net)
        self.assertEqual(repr(net), repr(ALL_KINDS))

    def test_what_is_shown_is_read_again(self):
        rng = random.Random(7)
        for _ in range(300):
            net = some_net(rng)
            check_net(net)
            self.assertEqual(parse(shown(net)), net)
            self.assertEqual(parse(shown(net).removesuffix("\n")), net)

    def test_the_example(self):
        text = "net 2 # two\n  dense\nrow 1 -2 bias 3\n\nrelu\ndone"
        self.assertEqual(shown(parse(text)), "net 2\ndense\nrow 1 -2 bias 3\nrelu\ndone\n")

    def test_errors_tell_line_and_reason(self):
        self.refused("net 2\ndense\nrow 1 bias 3\ndone\n", 3, "wrong length")


class Spaces(TextCase):
    def same(self, text):
        self.assertEqual(parse(text), SHORT_NET)

    def test_spaces(self):
        self.same("  net   2  \n   clamp  -3    4 \n done   \n")

    def test_empty_lines(self):
        self.same("\n\n   \nnet 2\n\nclamp -3 4\n   \n\ndone\n\n  \n\n")

    def test_within_a_layer_and_branches(self):
        text = "net 1\n\nsum\n#\n\nwith\n \ndense\n\n# a\nrow 1 bias 2\n\nrow 3 bias 4 # b\n\nmax 2\n\nend\n\ndone"
        layers = (("dense", ((1,), (3,)), (2, 4)), ("max", 2))
        self.assertEqual(parse(text), ("net", 1, (("sum", (), layers),)))

    def test_comments(self):
        self.same("# net 3\nnet 2 # two\n  # relu\nclamp -3 4 #relu\n#\ndone ## 1 2 3\n# bias\n# done")
        self.same("net 2 #\nclamp -3 4 #5\ndone #done")

    def test_a_sign_within_a_word_begins_no_comment(self):
        self.refused("net 2\nclamp -3 4#5\ndone\n", 2, "not a number")
        self.refused("net 2\nrelu#\ndone\n", 2, "unknown word")

    def test_words_in_a_comment_are_missing(self):
        self.refused("net # 2\n", 1, "net expected")
        self.refused("net 2\nclamp -3 # 4\ndone\n", 2, "wrong number of words")
        self.refused("net 2\n# done\n", 3, "done expected")

    def test_the_last_line_needs_no_newline(self):
        self.same(SHORT)
        self.same(SHORT.removesuffix("\n"))
        self.same(SHORT + "# end")

    def test_all_lines_are_counted(self):
        self.refused("\n# a\nnet 2\n\n  \nfoo\ndone\n", 6, "unknown word")


class Sizes(TextCase):
    def test_just_as_long_as_allowed(self):
        text = SHORT + " " * (60000 - len(SHORT))
        self.assertEqual(parse(text), SHORT_NET)
        text = SHORT + "\n" * (60000 - len(SHORT))
        self.assertEqual(parse(text), SHORT_NET)
        self.refused("\n" * 60000, 60001, "done expected")

    def test_one_character_more(self):
        self.refused(SHORT + " " * (60001 - len(SHORT)), 1, "text too long")
        self.refused("\n" * 60001, 1, "text too long")

    def test_ahead_of_all_else(self):
        self.refused("\n\n" + PERCENT * 60000, 1, "text too long")
        self.refused("foo\n" * 15001, 1, "text too long")


class Characters(TextCase):
    def test_each_that_is_allowed(self):
        signs = "".join(chr(code) for code in range(32, 127) if code != 37)
        self.assertEqual(parse("net 2 # " + signs + "\nclamp -3 4\ndone # " + signs), SHORT_NET)

    def test_each_that_is_not(self):
        codes = [code for code in range(32) if code != 10] + [37, 127, 128, 133, 160, 233, 0x0660, 0x2028, 0x1F600]
        for code in codes:
            self.refused("net 2\nclamp -3 4 # " + chr(code) + "\ndone\n", 2, "character not allowed")
            self.refused("net 2\nclamp -3 4\ndone\n" + chr(code), 4, "character not allowed")
            self.refused("net" + chr(code) + "2\ndone\n", 1, "character not allowed")

    def test_the_first_line_is_told(self):
        self.refused("net 2\n#\n# \t " + PERCENT + "\n# " + PERCENT + "\n", 3, "character not allowed")
        self.refused("net 2\r\ndone\r\n", 1, "character not allowed")

    def test_ahead_of_other_faults(self):
        for text in ("foo\n", "net 2 3\n", "net 2\nfoo\n", "net 2\nclamp\n", "net 2\nclamp 1 x\n", "net 2\nrow\n"):
            self.refused(text + "done\n#" + PERCENT, text.count("\n") + 2, "character not allowed")
        self.refused("net 2\n" + PERCENT, 2, "character not allowed")


if __name__ == "__main__":
    unittest.main()
