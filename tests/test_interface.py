"""Promise c1 and the interface: the names, where they are defined, and their arguments."""

import importlib
import inspect
import unittest

from wholenet.agree import agree, joined, prune
from wholenet.decide import decide, radius
from wholenet.gradients import net_back, net_gradients, net_tangent
from wholenet.nets import signals
from wholenet.ranges import ranges_of
from wholenet.replay import compact, losses, replay
from wholenet.texts import parse, shown
from wholenet.training import batch_gradients, no_speeds, trained
from wholenet.writing import mended, read_log, resume, write_log

FUNCTIONS = {
    "numbers": ("rounded(a, b)", "clamped(x, most)", "within(x, most)", "dot(a, b)"),
    "nets": ("check_net(net)", "gives(layer, n)", "length_of(net)", "layer_signals(layer, x)", "signals(net, x)",
             "outputs(net, x)", "class_of(row)"),
    "texts": ("shown(net)", "parse(text)"),
    "gradients": ("tangent(layer, x, pair)", "back(layer, x, pair)", "weight_gradient(layer, x, pair)",
                  "net_tangent(net, x, pair)", "net_back(net, x, pair)", "net_gradients(net, x, pair)",
                  "aligned(one, other)"),
    "losses": ("loss_of(loss, y, target)",),
    "training": ("no_speeds(net)", "is_example(net, example)", "batch_gradients(net, examples, loss, batch)",
                 "trained(net, speeds, gradients, count, rate, drag, frozen)"),
    "ranges": ("ranges_of(layers, ranges)",),
    "lines": ("line_back(layers, ranges, line, choices)", "crossing(layers, ranges)"),
    "judge": ("parts_of(net, demand)", "meets(net, inputs, demand)", "judge(net, box, demand, paper)"),
    "replay": ("replay(log)", "first_state(entry, place)", "go_on(state, entries, place)", "is_state(thing)",
               "compact(log)", "losses(log)", "audit(log, told)"),
    "writing": ("write_entry(entry, state)", "write_log(log)", "read_log(numbers)", "mended(numbers)",
                "resume(numbers)"),
    "decide": ("decide(net, box, demand, fuel=1000)", "radius(net, inputs, demand, *, most, fuel=1000)"),
    "agree": ("joined(first, second)", "agree(first, second, box, distance, fuel=1000)", "prune(net, box)"),
}


class Names(unittest.TestCase):
    def test_functions(self):
        for name, functions in FUNCTIONS.items():
            module = importlib.import_module("wholenet." + name)
            for told in functions:
                word = told.split("(")[0]
                function = getattr(module, word)
                self.assertEqual(word + str(inspect.signature(function)), told)
                self.assertEqual(function.__module__, module.__name__)


class Kinds(unittest.TestCase):
    """Everything that is handed out is made of tuples, strings and integers, but where a list is named."""

    def made_of_tuples(self, thing):
        self.assertIn(type(thing), (tuple, str, int))
        if isinstance(thing, tuple):
            for part in thing:
                self.made_of_tuples(part)

    def test_kinds(self):
        text = "net 4|sum|conv 1|kernel 1 2 bias 3|with|mean 1|max 2|dense|" + "row 1 2 bias 3|" * 3
        text += "end|relu|clamp -9 9|fork|dense|row 1 2 3 bias 4|with|end|done"
        net = parse(text.replace("|", "\n"))
        x = (5, 6, 7, 8)
        self.made_of_tuples(net)
        self.made_of_tuples(shown(net))
        self.assertIs(type(signals(net, x)), list)
        self.made_of_tuples(tuple(signals(net, x)))
        self.made_of_tuples(net_tangent(net, x, (0, x)))
        self.made_of_tuples(net_back(net, x, (0, x)))
        self.made_of_tuples(net_gradients(net, x, (0, x)))
        gradients = batch_gradients(net, ((x, x), (x, (1, 2, 3, 4))), "squares", (0, 1))
        self.made_of_tuples(gradients)
        self.made_of_tuples(no_speeds(net))
        self.made_of_tuples(trained(net, no_speeds(net), gradients, 2, 4096, 10, (1,)))

    def test_kinds_of_logs(self):
        net = ("net", 2, (("dense", ((1, 2), (3, 4)), (5, 6)),))
        log = (("begin", net), ("data", (((1, 2), (3, 4)),)), ("step", "squares", (0,), 4096, 9), ("freeze", 0), ("check",))
        numbers = write_log(log)
        self.assertIs(type(numbers), list)
        self.made_of_tuples(tuple(numbers))
        for thing in (replay(log), losses(log), compact(log), read_log(numbers), mended(numbers + [3]), resume(numbers)):
            self.made_of_tuples(thing)

    def test_kinds_of_answers(self):
        net = ("net", 1, (("dense", ((4096,), (-4096,)), (-70, -90)), ("relu",), ("dense", ((4096, 4096),), (0,))))
        box = ((-999, 999),)
        for bound, word in ((0, "holds"), (1, "fails"), (-1, "holds")):
            told = decide(net, box, ("least", (1,), bound))
            self.assertEqual(told[0], word)
            self.made_of_tuples(told)
        self.made_of_tuples(decide(net, ((-69, 999),), ("least", (1,), 0)))
        self.made_of_tuples(decide(net, box, ("least", (1,), 1), 1))
        self.made_of_tuples(radius(net, (500,), ("least", (1,), 1), most=999))
        self.made_of_tuples(joined(net, net))
        self.made_of_tuples(agree(net, net, ((500, 510),), 0))
        self.made_of_tuples(prune(net, ((500, 510),)))
        self.assertIs(type(ranges_of(net[2], box)), list)
        self.made_of_tuples(tuple(ranges_of(net[2], box)))


if __name__ == "__main__":
    unittest.main()
