"""Promise n5: check_net lets a net, and refuses whatever else it is handed."""

import copy
import unittest

from wholenet.errors import BadNet
from wholenet.nets import check_net
from wholenet.numbers import MOST_SIGNAL, MOST_WEIGHT

RELU = ("relu",)
KINDS = ("dense", "conv", "relu", "clamp", "max", "mean", "sum", "fork")

# One net with each kind of layer, by itself and within a branch; 4 signals at most places.
FULL = ("net", 4, (
    ("dense", ((1, 2, 3, 4), (5, 6, 7, 8), (1, 1, 1, 1), (0, 0, 0, 1)), (1, 0, 1, 9)),
    ("conv", ((1, 2), (3, 1)), (0, 1), 1),
    ("relu",),
    ("clamp", 0, 1),
    ("sum", (("max", 2),), (("mean", 2),)),
    ("fork", (("dense", ((1, 1, 1),), (1,)), ("relu",)), (("conv", ((1,),), (1,), 1), ("clamp", 1, 1))),
    ("max", 1),
    ("mean", 4),
))


def dense(rows, length, weight=1, bias=1):
    return ("dense", ((weight,) * length,) * rows, (bias,) * rows)


def conv(kernels, length, stride=1, weight=1, bias=1):
    return ("conv", ((weight,) * length,) * kernels, (bias,) * kernels, stride)


def versions(thing, change):
    """All things that come of this one by changing one thing in it, at any place."""
    found = list(change(thing))
    if isinstance(thing, tuple):
        for at, part in enumerate(thing):
            found.extend(thing[:at] + (new,) + thing[at + 1:] for new in versions(part, change))
    return found


class CheckCase(unittest.TestCase):
    def let(self, net):
        before = copy.deepcopy(net)
        self.assertIsNone(check_net(net), net)
        self.assertEqual(net, before)

    def refused(self, thing, shown=None):
        with self.assertRaises(BadNet, msg=shown or repr(thing)) as caught:
            check_net(thing)
        self.assertEqual((caught.exception.line, caught.exception.reason), (0, "not a net"))

    def let_layers(self, inputs, *layers):
        """By themselves, and within either branch of a fork."""
        self.let(("net", inputs, layers))
        self.let(("net", inputs, (("fork", layers, ()),)))
        self.let(("net", inputs, (("fork", (), layers),)))

    def refused_layers(self, inputs, *layers):
        self.refused(("net", inputs, layers))
        self.refused(("net", inputs, (("fork", layers, ()),)))
        self.refused(("net", inputs, (("fork", (), layers),)))


class Whole(CheckCase):
    def test_full_net(self):
        self.let(FULL)

    def test_example(self):
        self.refused(("net", 2, (("max", 3),)))
        self.let(("net", 3, (("max", 3),)))

    def test_no_nets_at_all(self):
        for thing in (None, True, False, 0, 1, -1, 10 ** 50, "", "net", "not a net", (), [], ("net",), ("net", 1),
                      ("net", 1, (), ()), ("net", (), 1), (1, "net", ()), ((), 1, ()), (None, 1, ()), ("nets", 1, ()),
                      ("NET", 1, ()), (("net",), 1, ()), (["net"], 1, ()), ["net", 1, ()], ("net", "1", ()),
                      ("net", None, ()), ("net", (1,), ()), ("net", [], ()), ("net", 1, None), ("net", 1, 0),
                      ("net", 1, ""), ("net", 1, "relu"), ("net", 1, []), ("net", 1, ("net", 1, ())),
                      (("net", 1, ()),), "net 1\ndone\n", ("e", "n", "t")):
            self.refused(thing)

    def test_inputs(self):
        for inputs in (1, 2, 15, 16):
            self.let(("net", inputs, ()))
        for inputs in (0, 17, -1, -16, 10 ** 30, True, False):
            self.refused(("net", inputs, ()))

    def test_things_that_are_no_layers(self):
        for thing in (None, True, 0, 1, "", "relu", (), [], ("",), (None,), (True,), (0,), ((),), ([],), (["relu"],),
                      (("relu",),), ("net", 1, ()), ("Relu",), ("relu ",), ("tanh",), ("row",), ("done",), "r"):
            self.refused(("net", 1, (thing,)))
            self.refused(("net", 1, (("sum", (thing,), ()),)))
            self.refused(("net", 1, (("fork", (), (thing,)),)))
            self.refused(("net", 1, (RELU, thing)))

    def test_layer_in_place_of_layers(self):
        self.let(("net", 1, (RELU,)))
        self.refused(("net", 1, RELU))

    def test_wrong_number_of_parts(self):
        self.let(("net", 4, FULL[2]))
        for layer in FULL[2]:
            self.refused(("net", 4, (layer[:-1],)))
        for layer in (dense(1, 4), conv(1, 4), RELU, ("clamp", 0, 1), ("max", 2), ("mean", 2), ("sum", (), ()),
                      ("fork", (), ())):
            self.let(("net", 4, (layer,)))
            for more in (0, 1, (), None):
                self.refused(("net", 4, (layer + (more,),)))
            for count in range(1, len(layer)):
                self.refused(("net", 4, (layer[:count],)))

    def test_the_parts_of_another_kind(self):
        pairs = (("max", "mean"), ("mean", "max"), ("sum", "fork"), ("fork", "sum"))
        for layer in (dense(1, 4), conv(1, 4), RELU, ("clamp", 0, 1), ("max", 2), ("mean", 2), ("sum", (), ()),
                      ("fork", (), ())):
            for other in KINDS:
                net = ("net", 4, ((other,) + layer[1:],))
                if other == layer[0] or (other, layer[0]) in pairs:
                    self.let(net)
                else:
                    self.refused(net)

    def test_a_list_for_a_tuple_in_each_place(self):
        changed = versions(FULL, lambda thing: [list(thing)] if isinstance(thing, tuple) else [])
        self.assertGreater(len(changed), 30)
        for net in changed:
            self.refused(net)

    def test_a_boolean_for_an_integer_in_each_place(self):
        def booleans(thing):
            return [bool(thing)] if isinstance(thing, int) else []

        changed = versions(FULL, booleans)
        self.assertGreater(len(changed), 40)
        for net in changed:
            self.refused(net)
        # To Python True is 1 and False 0: many of these are spoilt by nothing else.
        self.assertGreater(changed.count(FULL), 20)

    def test_another_thing_for_an_integer_in_each_place(self):
        def others(thing):
            return ["1", None, (), (1,), []] if isinstance(thing, int) else []

        for net in versions(FULL, others):
            self.refused(net)

    def test_another_thing_for_a_tuple_in_each_place(self):
        def others(thing):
            return ["", None, 0, True] if isinstance(thing, tuple) else []

        for net in versions(FULL, others):
            self.refused(net)

    def test_another_thing_for_a_word_in_each_place(self):
        def others(thing):
            return ["", "x", thing + " ", None, 0, (thing,), [thing], True] if isinstance(thing, str) else []

        for net in versions(FULL, others):
            self.refused(net)

    def test_one_thing_too_many_or_too_few_in_each_row(self):
        def lengths(thing):
            if isinstance(thing, tuple) and thing and all(isinstance(part, int) for part in thing):
                return [thing + (1,), thing[:-1]]
            return []

        # The weights of the last layers stand for themselves: a lone kernel may be longer.
        for net in versions(("net", 4, FULL[2][:2]), lengths):
            self.refused(net)

    def test_deep_things(self):
        deep = ()
        lists = []
        for _ in range(50000):
            deep = (deep,)
            lists = [lists]
        branches = (RELU,)
        for _ in range(50000):
            branches = (("sum", branches, ()),)
        for thing in (deep, lists, branches):
            for net in (thing, (thing, 1, ()), ("net", thing, ()), ("net", 1, thing), ("net", 1, (thing,)),
                        ("net", 1, ((thing,),)), ("net", 1, (("fork", (), thing),)),
                        ("net", 1, (("dense", thing, (0,)),)), ("net", 1, (("max", thing),))):
                # Python cannot show things as deep as these.
                self.refused(net, "a deep thing")


class Layers(CheckCase):
    def test_number_of_layers(self):
        for count in (0, 1, 11, 12):
            self.let(("net", 1, (RELU,) * count))
            self.let(("net", 1, (("sum", (RELU,) * count, ()),)))
            self.let(("net", 1, (("sum", (), (RELU,) * count),)))
            self.let(("net", 1, (("fork", (RELU,) * count, ()),)))
            self.let(("net", 1, (("fork", (), (RELU,) * count),)))
        for count in (13, 14, 100):
            self.refused(("net", 1, (RELU,) * count))
            self.refused(("net", 1, (("sum", (RELU,) * count, ()),)))
            self.refused(("net", 1, (("sum", (), (RELU,) * count),)))
            self.refused(("net", 1, (("fork", (RELU,) * count, ()),)))
            self.refused(("net", 1, (("fork", (), (RELU,) * count),)))

    def test_layers_of_branches_do_not_count_for_the_net(self):
        self.let(("net", 1, (("sum", (RELU,) * 12, (RELU,) * 12),) * 12))

    def test_rows(self):
        for count in (1, 2, 15, 16):
            self.let_layers(3, dense(count, 3))
        for count in (0, 17, 18):
            self.refused_layers(3, dense(count, 3))

    def test_length_of_rows(self):
        self.let_layers(3, dense(2, 3))
        for length in (0, 1, 2, 4):
            self.refused_layers(3, dense(2, length))
        self.refused_layers(3, ("dense", ((1, 1, 1), (1, 1)), (0, 0)))
        self.refused_layers(3, ("dense", ((1, 1, 1), (1, 1, 1, 1)), (0, 0)))
        self.refused_layers(3, ("dense", ((1, 1, 1), ()), (0, 0)))

    def test_rows_behind_another_layer(self):
        self.let_layers(3, dense(2, 3), dense(5, 2), dense(1, 5))
        self.refused_layers(3, dense(2, 3), dense(5, 3), dense(1, 5))
        self.let_layers(4, ("max", 2), dense(1, 2))
        self.refused_layers(4, ("max", 2), dense(1, 4))
        self.let(("net", 4, (("fork", (("max", 2),), ()), dense(1, 6))))
        self.refused(("net", 4, (("fork", (("max", 2),), ()), dense(1, 8))))
        self.let(("net", 4, (("sum", (("max", 2),), (("max", 2),)), dense(1, 2))))
        self.refused(("net", 4, (("sum", (("max", 2),), (("max", 2),)), dense(1, 4))))

    def test_both_branches_take_the_same(self):
        self.let(("net", 4, (("fork", (("max", 2), dense(1, 2)), (dense(1, 4),)),)))
        self.refused(("net", 4, (("fork", (("max", 2), dense(1, 2)), (dense(1, 2),)),)))

    def test_biases(self):
        self.let_layers(2, dense(3, 2))
        self.let_layers(2, conv(3, 2))
        for count in (0, 1, 2, 4):
            self.refused_layers(2, ("dense", ((1, 1),) * 3, (0,) * count))
            self.refused_layers(2, ("conv", ((1, 1),) * 3, (0,) * count, 1))

    def test_weights_and_biases_at_their_bounds(self):
        for sign in (1, -1):
            for number in (sign * MOST_WEIGHT, sign * (MOST_WEIGHT - 1), 0):
                self.let_layers(2, dense(2, 2, weight=number))
                self.let_layers(2, dense(2, 2, bias=number))
                self.let_layers(2, conv(2, 2, weight=number))
                self.let_layers(2, conv(2, 2, bias=number))
            for number in (sign * (MOST_WEIGHT + 1), sign * MOST_SIGNAL, sign * 10 ** 40):
                self.refused_layers(2, dense(2, 2, weight=number))
                self.refused_layers(2, dense(2, 2, bias=number))
                self.refused_layers(2, conv(2, 2, weight=number))
                self.refused_layers(2, conv(2, 2, bias=number))

    def test_one_number_beyond_its_bound_in_each_place(self):
        def beyond(thing):
            return [MOST_SIGNAL + 1, -MOST_SIGNAL - 1] if isinstance(thing, int) else []

        for net in versions(FULL, beyond):
            self.refused(net)

    def test_booleans_for_weights_and_biases(self):
        for number in (True, False):
            self.let_layers(2, ("dense", ((1, int(number)),), (int(number),)))
            self.refused_layers(2, ("dense", ((1, number),), (0,)))
            self.refused_layers(2, ("dense", ((number, 1),), (0,)))
            self.refused_layers(2, ("dense", ((1, 1),), (number,)))
            self.refused_layers(2, ("conv", ((1, number),), (0,), 1))
            self.refused_layers(2, ("conv", ((1, 1),), (number,), 1))

    def test_kernels(self):
        for count in (1, 2, 3, 4):
            self.let_layers(3, conv(count, 2))
        for count in (0, 5, 6):
            self.refused_layers(3, conv(count, 2))

    def test_length_of_kernels(self):
        for length in (1, 2, 3):
            self.let_layers(3, conv(2, length))
        for length in (0, 4, 5):
            self.refused_layers(3, conv(2, length))
        self.let_layers(3, ("conv", ((1, 2), (3, 4)), (0, 0), 1))
        for other in ((3,), (3, 4, 5), (), [3, 4], "34", 3, None):
            self.refused_layers(3, ("conv", ((1, 2), other), (0, 0), 1))
            self.refused_layers(3, ("conv", (other, (1, 2)), (0, 0), 1))
        self.let_layers(4, ("max", 2), conv(1, 2))
        self.refused_layers(4, ("max", 2), conv(1, 3))

    def test_stride(self):
        for stride in (1, 2, 3, 63, 64):
            self.let_layers(3, conv(1, 2, stride))
        for stride in (0, -1, 65, 10 ** 30, True, False, None, "1", (1,)):
            self.refused_layers(3, conv(1, 2, stride))

    def test_clamp(self):
        for low, high in ((0, 0), (-1, 1), (5, 6), (-6, -5), (-MOST_SIGNAL, MOST_SIGNAL),
                          (MOST_SIGNAL, MOST_SIGNAL), (-MOST_SIGNAL, -MOST_SIGNAL)):
            self.let_layers(2, ("clamp", low, high))
        for low, high in ((1, 0), (6, 5), (-5, -6), (MOST_SIGNAL, -MOST_SIGNAL), (-MOST_SIGNAL - 1, 0),
                          (0, MOST_SIGNAL + 1), (MOST_SIGNAL + 1, MOST_SIGNAL + 1),
                          (-MOST_SIGNAL - 1, -MOST_SIGNAL - 1), (False, 1), (0, True), (False, True)):
            self.refused_layers(2, ("clamp", low, high))

    def test_sizes_of_max(self):
        for n in range(1, 17):
            for size in range(-1, 20):
                if size >= 1 and n % size == 0:
                    self.let_layers(n, ("max", size))
                else:
                    self.refused_layers(n, ("max", size))
        for size in (True, False, None, "1", (1,), 10 ** 30, -10 ** 30):
            self.refused_layers(1, ("max", size))

    def test_sizes_of_mean(self):
        for n in range(1, 17):
            for size in range(-1, 20):
                if size in (1, 2, 4, 8, 16) and n % size == 0:
                    self.let_layers(n, ("mean", size))
                else:
                    self.refused_layers(n, ("mean", size))
        for size in (True, False, None, "1", (1,), 10 ** 30, -10 ** 30):
            self.refused_layers(1, ("mean", size))

    def test_long_sizes(self):
        wide = (("fork", (), ()), ("fork", (), ()))
        for size in (32, 64):
            self.let(("net", 16, wide + (("mean", size),)))
            self.let(("net", 16, wide + (("max", size),)))
        for size in (128, 63, 48):
            self.refused(("net", 16, wide + (("mean", size),)))
            self.refused(("net", 16, wide + (("max", size),)))
        self.let(("net", 12, wide + (("max", 48),)))
        self.refused(("net", 12, wide + (("mean", 48),)))

    def test_size_of_what_the_layer_takes(self):
        self.let_layers(6, ("max", 2), ("max", 3))
        self.refused_layers(6, ("max", 2), ("max", 2))
        self.let_layers(8, ("mean", 2), ("mean", 4))
        self.refused_layers(8, ("mean", 4), ("mean", 4))

    def test_sum_of_unlike_lengths(self):
        self.let(("net", 4, (("sum", (("max", 2),), (dense(2, 4),)),)))
        self.refused(("net", 4, (("sum", (("max", 2),), (dense(3, 4),)),)))
        self.refused(("net", 4, (("sum", (("max", 2),), ()),)))
        self.refused(("net", 4, (("sum", (), (("max", 2),)),)))
        self.let(("net", 4, (("sum", (), (dense(4, 4),)),)))
        self.let(("net", 4, (("fork", (("max", 2),), (dense(3, 4),)),)))

    def test_sum_or_fork_within_one(self):
        for outer in ("sum", "fork"):
            self.let(("net", 1, ((outer, (RELU,), (RELU,)), (outer, (), ()))))
            for inner in (("sum", (), ()), ("fork", (), ()), ("sum", (RELU,), (RELU,))):
                self.let(("net", 1, (inner,)))
                shorter = (inner, ("max", 2)) if inner[0] == "fork" else (inner,)
                self.let(("net", 1, shorter))
                self.refused(("net", 1, ((outer, shorter, ()),)))
                self.refused(("net", 1, ((outer, (), shorter),)))
                self.refused(("net", 1, ((outer, (RELU,) + shorter, (RELU,)),)))


class Lengths(CheckCase):
    def test_conv(self):
        self.let(("net", 16, (conv(4, 1),)))
        self.let(("net", 16, (conv(4, 1), conv(1, 1))))
        self.refused(("net", 16, (conv(4, 1), conv(2, 1))))
        self.let(("net", 16, (conv(4, 1), conv(2, 1, 2))))
        self.let(("net", 11, (conv(3, 1), conv(2, 2))))
        self.refused(("net", 11, (conv(3, 1), conv(2, 1))))

    def test_fork(self):
        twice = ("fork", (), ())
        self.let(("net", 16, (twice, twice)))
        self.refused(("net", 16, (twice, twice, twice)))
        self.let(("net", 8, (twice, twice, twice)))
        self.let(("net", 16, (("fork", (conv(3, 1),), ()),)))
        self.refused(("net", 16, (("fork", (conv(3, 1),), (conv(2, 1),)),)))
        self.refused(("net", 16, (("fork", (conv(4, 1),), (dense(1, 16),)),)))
        self.let(("net", 16, (("fork", (conv(4, 1, 2),), (dense(16, 16),)),)))

    def test_too_many_signals_between_layers(self):
        twice = ("fork", (), ())
        for inputs in (4, 8):
            self.let(("net", inputs, (twice, twice, twice, ("max", 2))))
        self.refused(("net", 16, (twice, twice, twice, ("max", 2))))
        self.refused(("net", 16, (twice, twice, twice, dense(1, 128))))

    def test_too_many_signals_within_a_branch(self):
        long = (conv(4, 1), conv(2, 1), ("max", 8))
        short = (conv(4, 1), conv(1, 1), ("max", 4))
        self.let(("net", 16, (("sum", short, short),)))
        self.refused(("net", 16, (("sum", long, short),)))
        self.refused(("net", 16, (("sum", short, long),)))
        self.let(("net", 16, (("fork", short, short),)))
        self.refused(("net", 16, (("fork", long, short),)))
        self.refused(("net", 16, (("fork", short, long),)))

    def test_sum_at_the_bound(self):
        self.let(("net", 16, (("sum", (conv(4, 1),), (conv(4, 1),)),)))


if __name__ == "__main__":
    unittest.main()
