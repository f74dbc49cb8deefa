"""Promise c1 and the interface: the names, where they are defined, and their arguments."""

import importlib
import inspect
import unittest

from wholenet.gradients import net_back, net_gradients, net_tangent
from wholenet.nets import signals
from wholenet.texts import parse, shown
from wholenet.training import batch_gradients, no_speeds, trained

FUNCTIONS = {
    "numbers": ("rounded(a, b)", "clamped(x, most)", "within(x, most)", "dot(a, b)"),
    "nets": ("check_net(net)", "gives(layer, n)", "length_of(net)", "layer_signals(layer, x)", "signals(net, x)",
             "outputs(net, x)", "class_of(row)"),
    "texts": ("shown(net)", "parse(text)"),
    "gradients": ("tangent(layer, x, pair)", "back(layer, x, pair)", "weight_gradient(layer, x, pair)",
                  "net_tangent(net, x, pair)", "net_back(net, x, pair)", "net_gradients(net, x, pair)",
                  "aligned(one, other)"),
    "losses": ("loss_of(loss, y, target)",),
    "training": ("no_speeds(net)", "is_example(net, example)", "batch_gradients(net, examples, loss, batch)",
                 "trained(net, speeds, gradients, count, rate, drag, frozen)"),
    "ranges": ("ranges_of(layers, ranges)",),
    "lines": ("line_back(layers, ranges, line, choices)", "crossing(layers, ranges)"),
    "judge": ("parts_of(net, demand)", "meets(net, inputs, demand)", "judge(net, box, demand, paper)"),
}


class Names(unittest.TestCase):
    def test_functions(self):
        for name, functions in FUNCTIONS.items():
            module = importlib.import_module("wholenet." + name)
            for told in functions:
                word = told.split("(")[0]
                function = getattr(module, word)
                self.assertEqual(word + str(inspect.signature(function)), told)
                self.assertEqual(function.__module__, module.__name__)


class Kinds(unittest.TestCase):
    """Everything that is handed out is made of tuples, strings and integers, but where a list is named."""

    def made_of_tuples(self, thing):
        self.assertIn(type(thing), (tuple, str, int))
        if isinstance(thing, tuple):
            for part in thing:
                self.made_of_tuples(part)

    def test_kinds(self):
        text = "net 4|sum|conv 1|kernel 1 2 bias 3|with|mean 1|max 2|dense|" + "row 1 2 bias 3|" * 3
        text += "end|relu|clamp -9 9|fork|dense|row 1 2 3 bias 4|with|end|done"
        net = parse(text.replace("|", "\n"))
        x = (5, 6, 7, 8)
        self.made_of_tuples(net)
        self.made_of_tuples(shown(net))
        self.assertIs(type(signals(net, x)), list)
        self.made_of_tuples(tuple(signals(net, x)))
        self.made_of_tuples(net_tangent(net, x, (0, x)))
        self.made_of_tuples(net_back(net, x, (0, x)))
        self.made_of_tuples(net_gradients(net, x, (0, x)))
        gradients = batch_gradients(net, ((x, x), (x, (1, 2, 3, 4))), "squares", (0, 1))
        self.made_of_tuples(gradients)
        self.made_of_tuples(no_speeds(net))
        self.made_of_tuples(trained(net, no_speeds(net), gradients, 2, 4096, 10, (1,)))


if __name__ == "__main__":
    unittest.main()
