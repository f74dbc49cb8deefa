"""Promises c2, c3, l1, l2, l7 and l8: logs, states, replaying, compacting and audits."""

import copy
import random
import unittest

from tests.helper import some_log
from wholenet.errors import BadEntry
from wholenet.losses import loss_of
from wholenet.nets import outputs
from wholenet.numbers import MOST_SIGNAL, MOST_WEIGHT, UNIT
from wholenet.replay import audit, compact, first_state, go_on, is_state, losses, replay
from wholenet.training import batch_gradients, no_speeds, trained

TOP = MOST_SIGNAL
MOST = MOST_WEIGHT
FAR = 2 ** 40
ONE = ("net", 1, (("dense", ((UNIT,),), (0,)),))
# Two inputs, three outputs, and one layer of each kind that has weights.
NET = ("net", 2, (("dense", ((UNIT, 0), (0, UNIT), (1, 2)), (1, 2, 3)), ("relu",),
                  ("sum", (("conv", ((UNIT, 5),), (7,), 1), ("relu",)), (("dense", ((1, 2, 3), (4, 5, 6)), (7, 8)),)),
                  ("fork", (("clamp", -9, 99),), (("max", 2),))))
SPEEDS = ((((1, 2), (3, 4), (5, 6)), (7, 8, 9)), (),
          (((((1, 2),), (3,)), ()), ((((1, 2, 3), (4, 5, 6)), (7, 8)),)),
          (((),), ((),)))
EXAMPLES = (((3, 4), (5, 6, 7)), ((-3, 9), 2), ((100, 0), (-1, 0, 1)))
STATE = ("state", NET, SPEEDS, EXAMPLES, (0, 2), 17)
BEGIN = ("begin", NET)
START = ("state", NET, no_speeds(NET), (), (), 0)
DATA = ("data", EXAMPLES)
STEP = ("step", "squares", (0, 2), UNIT // 4, UNIT // 2)


def with_part(thing, at, part):
    return thing[:at] + (part,) + thing[at + 1:]


class EntryCase(unittest.TestCase):
    def refused(self, entry, log=(BEGIN, DATA)):
        """The entry cannot be applied behind the log, whatever stands behind it, and is told with its index."""
        state = replay(log)
        for behind in ((), (("check",),), (("begin", 5), entry)):
            with self.assertRaises(BadEntry, msg=entry) as caught:
                replay(log + (entry,) + behind)
            self.assertEqual(caught.exception.place, len(log))
            for place in (1, 7, 9999):
                with self.assertRaises(BadEntry, msg=entry) as caught:
                    go_on(state, (entry,) + behind, place)
                self.assertEqual(caught.exception.place, place)

    def let(self, entry, log=(BEGIN, DATA)):
        """The state behind the entry."""
        told = replay(log + (entry,))
        self.assertEqual(go_on(replay(log), (entry,), 7), told)
        self.assertTrue(is_state(told))
        return told


class First(unittest.TestCase):
    def test_begin(self):
        self.assertEqual(replay((BEGIN,)), START)
        self.assertEqual(first_state(BEGIN, 0), START)
        self.assertEqual(replay((("begin", ("net", 1, ())),)), ("state", ("net", 1, ()), (), (), (), 0))

    def test_state(self):
        self.assertEqual(replay((("state", STATE),)), STATE)
        self.assertEqual(first_state(("state", STATE), 0), STATE)

    def test_first_entries_that_are_none(self):
        for entry in ((), BEGIN + (0,), BEGIN[:1], NET, STATE, ("begin",), ("state",), ("state", STATE, 0), [*BEGIN],
                      ["begin", NET], None, 5, True, "begin", ("begin", STATE), ("state", NET), ("begin", ("net", 0, ())),
                      ("begin", ("net", 17, ())), ("begin", ["net", 1, ()]), ("begin", None), ("begin", "net"),
                      ("start", NET), (0, NET), (("begin",), NET), ("begin", (BEGIN,)), ("state", ("state", STATE)),
                      DATA, ("data", ()), STEP, ("freeze", 0), ("thaw", 0), ("check",), ("check", STATE), ("ab", NET)):
            for behind in ((), (("check",),), (BEGIN,)):
                with self.assertRaises(BadEntry, msg=entry) as caught:
                    replay((entry,) + behind)
                self.assertEqual(caught.exception.place, 0)
            for place in (0, 3, 20000):
                with self.assertRaises(BadEntry, msg=entry) as caught:
                    first_state(entry, place)
                self.assertEqual(caught.exception.place, place)

    def test_the_empty_log(self):
        for function in (replay, compact, losses, lambda log: audit(log, ()), lambda log: audit(log, (1,))):
            with self.assertRaises(BadEntry) as caught:
                function(())
            self.assertEqual(caught.exception.place, 0)


class Entries(EntryCase):
    def test_data(self):
        self.assertEqual(self.let(DATA, (BEGIN,)), with_part(START, 3, EXAMPLES))
        self.assertEqual(self.let(("data", EXAMPLES[:1])), with_part(START, 3, EXAMPLES + EXAMPLES[:1]))
        self.assertEqual(self.let(("data", EXAMPLES[1:]), (("state", STATE),)),
                         with_part(STATE, 3, EXAMPLES + EXAMPLES[1:]))

    def test_data_without_examples(self):
        self.assertEqual(self.let(("data", ())), with_part(START, 3, EXAMPLES))
        self.assertEqual(self.let(("data", ()), (BEGIN,)), START)

    def test_step(self):
        for loss, batch in (("squares", (0, 2)), ("squares", (2, 2, 0)), ("margins", (1,))):
            gradients = batch_gradients(NET, EXAMPLES, loss, batch)
            net, speeds = trained(NET, no_speeds(NET), gradients, len(batch), 1000, 77, ())
            self.assertNotEqual(net, NET)
            told = self.let(("step", loss, batch, 1000, 77))
            self.assertEqual(told, ("state", net, speeds, EXAMPLES, (), 1))
            gradients = batch_gradients(net, EXAMPLES, loss, batch)
            net, speeds = trained(net, speeds, gradients, len(batch), 9, UNIT, ())
            told = self.let(("step", loss, batch, 9, UNIT), (BEGIN, DATA, ("step", loss, batch, 1000, 77)))
            self.assertEqual(told, ("state", net, speeds, EXAMPLES, (), 2))

    def test_step_with_frozen_layers(self):
        gradients = batch_gradients(NET, EXAMPLES, "squares", (0, 2))
        net, speeds = trained(NET, SPEEDS, gradients, 2, 1000, 77, (0, 2))
        self.assertEqual(self.let(("step", "squares", (0, 2), 1000, 77), (("state", STATE),)),
                         ("state", net, speeds, EXAMPLES, (0, 2), 18))
        self.assertEqual(net, NET)
        net, speeds = trained(NET, SPEEDS, gradients, 2, 1000, 77, (0,))
        log = (("state", STATE), ("thaw", 2), ("step", "squares", (0, 2), 1000, 77))
        self.assertEqual(replay(log), ("state", net, speeds, EXAMPLES, (0,), 18))
        self.assertNotEqual(net, NET)

    def test_freeze(self):
        told = with_part(START, 3, EXAMPLES)
        for layer in range(4):
            self.assertEqual(self.let(("freeze", layer)), with_part(told, 4, (layer,)))
        log = (BEGIN, ("freeze", 2), ("freeze", 0), ("freeze", 3), ("freeze", 1))
        for many, frozen in enumerate(((), (2,), (0, 2), (0, 2, 3), (0, 1, 2, 3))):
            self.assertEqual(replay(log[:many + 1]), with_part(START, 4, frozen))

    def test_freezing_what_is_frozen(self):
        for layer in (0, 2):
            self.assertEqual(self.let(("freeze", layer), (("state", STATE),)), STATE)

    def test_thaw(self):
        for layer, frozen in ((0, (1, 3)), (1, (0, 3)), (3, (0, 1))):
            state = with_part(STATE, 4, (0, 1, 3))
            self.assertEqual(self.let(("thaw", layer), (("state", state),)), with_part(STATE, 4, frozen))

    def test_thawing_what_is_not(self):
        for layer in (1, 3):
            self.assertEqual(self.let(("thaw", layer), (("state", STATE),)), STATE)
        self.assertEqual(self.let(("thaw", 0), (BEGIN,)), START)

    def test_check(self):
        self.assertEqual(self.let(("check",), (BEGIN,)), START)
        self.assertEqual(self.let(("check",), (("state", STATE),)), STATE)
        self.assertEqual(replay((("state", STATE),) + (("check",),) * 5), STATE)

    def test_speeds_of_a_frozen_layer_become_0_at_the_next_step(self):
        log = (BEGIN, DATA, ("step", "squares", (0, 2), 1000, 0), ("freeze", 0), ("data", ()), ("check",))
        before = replay(log[:3])
        self.assertNotEqual(before[2][0], no_speeds(NET)[0])
        for many in (4, 5, 6):
            self.assertEqual(replay(log[:many]), with_part(before, 4, (0,)))
        behind = replay(log + (("step", "squares", (0,), 1, UNIT),))
        self.assertEqual(behind[2][0], no_speeds(NET)[0])
        self.assertEqual(behind[1][2][0], before[1][2][0])
        self.assertNotEqual(behind[2][2], no_speeds(NET)[2])


class Refusals(EntryCase):
    def test_no_entry(self):
        for entry in ((), None, 5, True, "check", "", [], ["check"], [*STEP], [("check",)], ("Check",), ("checks",),
                      (0,), (None,), (("check",),), ("",), ("end",), ("audit", ()), ((),), (STEP,), ([],), (["check"],)):
            self.refused(entry)
        self.let(("check",))

    def test_another_number_of_parts(self):
        for entry in (DATA, STEP, ("freeze", 0), ("thaw", 0), ("check",)):
            self.let(entry)
            for more in (0, (), "x"):
                self.refused(entry + (more,))
            if len(entry) > 1:
                self.refused(entry[:-1])
                self.refused(entry[:1])

    def test_a_check_with_its_state(self):
        self.refused(("check", replay((BEGIN, DATA))))

    def test_a_second_begin_or_state(self):
        self.refused(BEGIN)
        self.refused(("state", STATE))
        self.refused(BEGIN, (BEGIN,))
        self.refused(("state", START), (("state", START),))

    def test_things_that_are_no_examples(self):
        for thing in (None, 5, "", [], list(EXAMPLES), EXAMPLES[0], ((3, 4), 2), (0,), (None,), ("ab",), ((),),
                      ([(3, 4), 2],), (([3, 4], 2),), (((3, 4), [5, 6, 7]),), (((3, 4),),), (((3, 4), 2, 0),)):
            self.refused(("data", thing))

    def test_examples_of_another_length(self):
        for inputs in ((), (3,), (3, 4, 5)):
            for target in (0, (5, 6, 7)):
                self.refused(("data", ((inputs, target),)))
                self.refused(("data", EXAMPLES + ((inputs, target),)))
        for target in ((), (5, 6), (5, 6, 7, 8), 3, -1):
            self.refused(("data", (((3, 4), target),)))
            self.refused(("data", (((3, 4), target),) + EXAMPLES))
        for target in ((5, 6, 7), 0, 1, 2):
            self.let(("data", (((3, 4), target),)))

    def test_examples_just_beyond_their_bounds(self):
        for end in (TOP, -TOP):
            beyond = end + (1 if end > 0 else -1)
            for target in (0, (5, 6, 7)):
                self.let(("data", (((end, 4), target), ((3, end), target))))
                self.refused(("data", (((beyond, 4), target),)))
                self.refused(("data", (((3, beyond), target),)))
            self.let(("data", (((3, 4), (end, 6, end)),)))
            self.refused(("data", (((3, 4), (beyond, 6, 7)),)))
            self.refused(("data", (((3, 4), (5, 6, beyond)),)))

    def test_booleans_in_examples(self):
        for example in (((True, 4), 0), ((3, False), 0), ((3, 4), True), ((3, 4), False), ((3, 4), (5, True, 7))):
            self.refused(("data", (example,)))

    def test_a_thousand_examples(self):
        many = EXAMPLES[:1] * 999
        full = (BEGIN, ("data", many), ("data", EXAMPLES[1:2]))
        self.assertEqual(len(replay(full)[3]), 1000)
        self.refused(("data", EXAMPLES[:1]), full)
        self.refused(("data", EXAMPLES[:2]), full[:2])
        self.let(("data", ()), full)
        self.let(("step", "margins", (999,), 0, 0), full)
        self.let(("data", many + EXAMPLES[:1]), (BEGIN,))
        self.refused(("data", many + EXAMPLES[:2]), (BEGIN,))
        self.assertEqual(len(self.let(("data", many[:997]))[3]), 1000)
        self.refused(("data", many[:998]))

    def test_batches(self):
        for many in (1, 2, 63, 64):
            self.assertEqual(self.let(with_part(STEP, 2, (0,) * many))[5], 1)
        for batch in ((), (0,) * 65, (0,) * 1000, [0], 0, None, "0", "", ("0",), (None,), ((0,),), (0, True), (False,)):
            self.refused(with_part(STEP, 2, batch))

    def test_an_index_without_an_example(self):
        for batch in ((3,), (0, 3), (3, 0), (-1,), (0, -1), (0, 99), (-3,)):
            self.refused(with_part(STEP, 2, batch))
        self.let(with_part(STEP, 2, (3,)), (BEGIN, DATA, DATA))
        self.refused(with_part(STEP, 2, (0,)), (BEGIN,))
        self.refused(with_part(STEP, 2, (0,)), (BEGIN, ("data", ())))

    def test_a_target_of_the_other_loss(self):
        self.refused(("step", "squares", (1,), 0, 0))
        self.refused(("step", "squares", (0, 2, 1), 0, 0))
        self.refused(("step", "margins", (0,), 0, 0))
        self.refused(("step", "margins", (1, 1, 2), 0, 0))
        self.let(("step", "margins", (1, 1, 1), 0, 0))
        self.let(("step", "squares", (0, 2), 0, 0))

    def test_another_loss(self):
        for loss in ("", "square", "Squares", "margin", 0, None, (), ("squares",), ["squares"], True):
            for batch in ((0,), (1,)):
                self.refused(("step", loss, batch, 0, 0))

    def test_rate_and_drag(self):
        for at in (3, 4):
            for number in (0, 1, UNIT - 1, UNIT):
                self.let(with_part(STEP, at, number))
            for number in (-1, UNIT + 1, True, False, None, "0", "", (), (0,), [0]):
                self.refused(with_part(STEP, at, number))

    def test_layers_that_there_are_not(self):
        for kind in ("freeze", "thaw"):
            for layer in (4, -1, 99, -4, True, False, None, "0", (), (0,), [0]):
                self.refused((kind, layer))
            for layer in range(4):
                self.let((kind, layer))
            self.refused((kind, 0), (("begin", ("net", 1, ())),))

    def test_things_many_deep(self):
        deep = ()
        for _ in range(100000):
            deep = (deep,)
        for entry in (deep, (deep,), ("data", deep), ("step", deep, (0,), 0, 0), ("freeze", deep), ("check", deep),
                      ("data", (((3, 4), deep),)), ("step", "squares", deep, 0, 0)):
            self.refused(entry)
        for entry in (deep, ("begin", deep), ("state", deep), ("state", with_part(STATE, 2, deep))):
            with self.assertRaises(BadEntry):
                first_state(entry, 0)


class States(unittest.TestCase):
    def none(self, thing):
        self.assertIs(is_state(thing), False, thing)
        with self.assertRaises(BadEntry, msg=thing) as caught:
            replay((("state", thing), ("check",)))
        self.assertEqual(caught.exception.place, 0)

    def state(self, thing):
        self.assertIs(is_state(thing), True, thing)
        self.assertEqual(replay((("state", thing), ("check",))), thing)

    def test_states(self):
        self.state(STATE)
        self.state(START)
        self.state(("state", ("net", 3, ()), (), (), (), 0))

    def test_other_shapes(self):
        for thing in ((), None, 5, True, "state", [*STATE], STATE[:5], STATE + (0,), STATE[1:], ("state",), (STATE,),
                      ("State",) + STATE[1:], (0,) + STATE[1:], (None,) + STATE[1:], (("state",),) + STATE[1:]):
            self.none(thing)

    def test_nets(self):
        for net in (None, 5, (), "net", [*NET], NET[:2], ("net", 1, NET[2]), ("net", 2, NET[2][:3]),
                    ("net", 2, NET[2][1:]), ("net", True, NET[2]), ("net", 0, ()), ONE):
            self.none(with_part(STATE, 1, net))
        self.none(with_part(START, 1, ("net", 17, ())))

    def test_speeds(self):
        dense, relu, added, forked = SPEEDS
        for speeds in (None, 5, (), "abcd", [*SPEEDS], SPEEDS[:3], SPEEDS + ((),), (0,) * 4, ((),) * 4, (None,) * 4):
            self.none(with_part(STATE, 2, speeds))
        for thing in (None, 5, "ab", (), [*dense], dense[:1], dense + ((),), (dense[0], [7, 8, 9]), ([*dense[0]], dense[1]),
                      (dense[0][:2], dense[1]), (dense[0] + ((1, 2),), dense[1]), (dense[0], (7, 8)), (dense[1], dense[0]),
                      (dense[0], (7, 8, 9, 0)), (((1, 2), (3, 4), (5,)), dense[1]), (((1, 2), (3, 4), 5), dense[1]),
                      (((1, 2), (3, 4), (5, 6, 7)), dense[1]), (((1, 2), [3, 4], (5, 6)), dense[1]),
                      (((1, 2), (3, "4"), (5, 6)), dense[1]), (((1, 2), (3, None), (5, 6)), dense[1]),
                      (((1, True), (3, 4), (5, 6)), dense[1]), (dense[0], (7, False, 9)), (dense[0], 7), (5, dense[1])):
            self.none(with_part(STATE, 2, (thing, relu, added, forked)))
        for thing in (None, 0, "", [], (0,), ((),), False):
            self.none(with_part(STATE, 2, (dense, thing, added, forked)))
        for thing in (None, 5, (), [*added], added[:1], added + ((),), (added[1], added[0]), ((), added[1]),
                      (added[0], ()), (added[0][:1], added[1]), (added[0] + ((),), added[1]), ([*added[0]], added[1]),
                      (((((1, 2),), (3, 4)), ()), added[1]), (((((1, 2, 3),), (3,)), ()), added[1]),
                      (added[0], ((((1, 2, 3), (4, 5, True)), (7, 8)),))):
            self.none(with_part(STATE, 2, (dense, relu, thing, forked)))
        for thing in ((), ((), ()), ((0,), ((),)), (((),), (0,)), (((),), ((), ())), "ab", (((),), ((),), ()), ((), ((),))):
            self.none(with_part(STATE, 2, (dense, relu, added, thing)))

    def test_speeds_within_their_bound(self):
        dense, relu, added, forked = SPEEDS
        for sign in (1, -1):
            for number, look in ((sign * MOST, self.state), (sign * (MOST + 1), self.none)):
                for thing in ((((number, 2), (3, 4), (5, 6)), (7, 8, 9)), (((1, 2), (3, 4), (5, number)), (7, 8, 9)),
                              (((1, 2), (3, 4), (5, 6)), (7, number, 9))):
                    look(with_part(STATE, 2, (thing,) + SPEEDS[1:]))
                for thing in ((((((1, number),), (3,)), ()), added[1]), (((((1, 2),), (number,)), ()), added[1]),
                              (added[0], ((((1, 2, 3), (4, 5, number)), (7, 8)),)),
                              (added[0], ((((1, 2, 3), (4, 5, 6)), (number, 8)),))):
                    look(with_part(STATE, 2, (dense, relu, thing, forked)))

    def test_any_speeds_go_with_a_frozen_layer(self):
        for frozen in ((), (0,), (2,), (0, 1, 2, 3)):
            self.state(with_part(STATE, 4, frozen))
            self.state(with_part(with_part(STATE, 4, frozen), 2, no_speeds(NET)))

    def test_examples(self):
        for examples in ((), EXAMPLES, EXAMPLES[:1] * 1000):
            self.state(with_part(STATE, 3, examples))
        for examples in (None, 5, "", [], [*EXAMPLES], EXAMPLES[0], EXAMPLES[:1] * 1001, (((3,), 2),), (((3, 4), 3),),
                         (((3, 4), (5, 6)),), (((3, TOP + 1), 2),), (((3, 4), (5, 6, -TOP - 1)),), EXAMPLES + (0,),
                         (((3, True), 2),), (((3, 4), True),), (((3, 4), 0), ((3, 4), -1))):
            self.none(with_part(STATE, 3, examples))

    def test_frozen_layers(self):
        for frozen in ((), (0,), (3,), (0, 1), (0, 3), (1, 2, 3), (0, 1, 2, 3)):
            self.state(with_part(STATE, 4, frozen))
        for frozen in (None, 0, "", "0", [], [0], (4,), (-1,), (0, 4), (-1, 0), (1, 0), (0, 2, 1), (0, 0), (0, 1, 1),
                       (2, 2), (0, 1, 2, 3, 3), (0, 1, 2, 3, 4), (True,), (False, 1), (0, True), ("0",), ((0,),), (None,)):
            self.none(with_part(STATE, 4, frozen))
        empty = ("state", ("net", 1, ()), (), (), (), 0)
        self.state(empty)
        self.none(with_part(empty, 4, (0,)))

    def test_steps(self):
        for steps in (0, 1, FAR - 1, FAR):
            self.state(with_part(STATE, 5, steps))
        for steps in (-1, FAR + 1, 2 * FAR, True, False, None, "0", (), (0,), "", [0]):
            self.none(with_part(STATE, 5, steps))

    def test_a_step_behind_the_last_one(self):
        near = with_part(STATE, 5, FAR - 1)
        self.assertEqual(go_on(near, (STEP,), 5)[5], FAR)
        for log, place in (((("state", near), STEP, STEP), 2), ((("state", with_part(STATE, 5, FAR)), STEP), 1)):
            with self.assertRaises(BadEntry) as caught:
                replay(log)
            self.assertEqual(caught.exception.place, place)
        log = (("state", near), STEP, ("check",), DATA, ("freeze", 1), ("thaw", 1))
        self.assertEqual(replay(log)[5], FAR)


class Parts(unittest.TestCase):
    def test_two_and_three_parts(self):
        rng = random.Random(61)
        for _ in range(60):
            log = some_log(rng)
            whole = replay(log)
            self.assertTrue(is_state(whole))
            for first in range(1, len(log) + 1):
                state = replay(log[:first])
                self.assertEqual(go_on(state, log[first:], first), whole)
                self.assertEqual(replay((("state", state),) + log[first:]), whole)
                for second in range(first, len(log) + 1):
                    between = go_on(state, log[first:second], first)
                    self.assertEqual(go_on(between, log[second:], second), whole)

    def test_without_further_entries(self):
        for place in (1, 9999, 10000, 20000):
            self.assertEqual(go_on(STATE, (), place), STATE)

    def test_the_first_of_two_that_cannot_be_applied(self):
        log = (BEGIN, DATA, ("check",), STEP, ("freeze", 1), ("check",))
        for first in range(6):
            for second in range(first + 1, 6):
                entries = list(log)
                entries[first] = entries[second] = ("freeze", 4)
                for function in (replay, compact, losses):
                    with self.assertRaises(BadEntry) as caught:
                        function(tuple(entries))
                    self.assertEqual(caught.exception.place, first)
                if first > 0:
                    with self.assertRaises(BadEntry) as caught:
                        go_on(first_state(BEGIN, 0), tuple(entries[1:]), 100)
                    self.assertEqual(caught.exception.place, 99 + first)

    def test_ten_thousand_entries(self):
        log = (BEGIN,) + (("check",),) * 9998 + (("freeze", 1),)
        self.assertEqual(len(log), 10000)
        self.assertEqual(replay(log)[4], (1,))
        self.assertEqual(losses(log), ())
        for function in (replay, compact, losses):
            for entry in (("check",), ("freeze", 9), None):
                with self.assertRaises(BadEntry) as caught:
                    function(log + (entry,))
                self.assertEqual(caught.exception.place, 10000)
        for place in (9999, 10000, 10001, 20000):
            told = max(place, 10000)
            with self.assertRaises(BadEntry) as caught:
                go_on(STATE, (("check",), ("check",)), place)
            self.assertEqual(caught.exception.place, told)
        self.assertEqual(go_on(STATE, (("check",),), 9999), STATE)
        self.assertEqual(go_on(STATE, (("thaw", 0), ("freeze", 1)), 9998)[4], (1, 2))

    def test_an_earlier_entry_is_told_ahead_of_the_ten_thousandth(self):
        with self.assertRaises(BadEntry) as caught:
            go_on(STATE, (("freeze", 4), ("check",)), 9999)
        self.assertEqual(caught.exception.place, 9999)


class Compact(unittest.TestCase):
    def test_logs_of_all_kinds(self):
        rng = random.Random(62)
        logs = [some_log(rng, rng.randint(1, 8)) for _ in range(60)]
        for log in logs + [(BEGIN,), (("state", STATE),), (("state", STATE), STEP, ("check",), ("thaw", 0))]:
            told = compact(log)
            self.assertEqual(told, (("state", replay(log)),))
            self.assertEqual(replay(told), replay(log))
            self.assertEqual(compact(told), told)
            self.assertEqual(replay(told + (("data", ()), ("check",))), replay(log + (("data", ()),)))

    def test_an_entry_that_cannot_be_applied(self):
        for place, log in ((0, ()), (0, (DATA,)), (1, (BEGIN, BEGIN)), (2, (BEGIN, DATA, ("freeze", 4)))):
            with self.assertRaises(BadEntry) as caught:
                compact(log)
            self.assertEqual(caught.exception.place, place)


class Losses(unittest.TestCase):
    LOG = (("begin", ONE), ("data", (((10,), (30,)), ((2,), (2,)))), ("step", "squares", (0,), UNIT, 0), ("check",),
           ("step", "squares", (1, 0, 1), UNIT, 0), ("freeze", 0), ("step", "squares", (0, 0), UNIT, 0))

    def test_losses_ahead_of_the_step(self):
        # Behind the first step the net adds 20, so 30 and 22 are given.
        self.assertEqual(losses(self.LOG[:3]), (400,))
        self.assertEqual(losses(self.LOG[:5]), (400, 800))
        state = replay(self.LOG[:5])
        self.assertEqual(losses(self.LOG)[2], 2 * (outputs(state[1], (10,))[0] - 30) ** 2)
        self.assertEqual(losses(self.LOG[:2]), ())

    def test_margins(self):
        net = ("net", 3, ())
        log = (("begin", net), ("data", (((10, 5000, 0), 0), ((9, 9, 9), 2))), ("step", "margins", (0, 1, 0), 0, 0))
        self.assertEqual(losses(log), (2 * 13172 + 2 * UNIT,))

    def test_some_logs(self):
        rng = random.Random(63)
        many = 0
        for _ in range(60):
            log = some_log(rng)
            told = []
            for place, entry in enumerate(log):
                if entry[0] == "step":
                    state = replay(log[:place])
                    pairs = [state[3][index] for index in entry[2]]
                    told.append(sum(loss_of(entry[1], outputs(state[1], x), target)[0] for x, target in pairs))
            self.assertEqual(losses(log), tuple(told))
            self.assertEqual(audit(log, tuple(told)), -1)
            many += len(told)
        self.assertGreater(many, 60)

    def test_audit(self):
        told = losses(self.LOG)
        self.assertEqual(audit(self.LOG, told), -1)
        self.assertEqual(audit(self.LOG[:4], told[:1]), -1)
        self.assertEqual(audit(self.LOG[:2], ()), -1)

    def test_changed_losses(self):
        told = losses(self.LOG)
        for off in (1, -1):
            for which, place in ((0, 2), (1, 4), (2, 6)):
                self.assertEqual(audit(self.LOG, with_part(told, which, told[which] + off)), place)
            self.assertEqual(audit(self.LOG, (told[0], told[1] + off, told[2] + off)), 4)
            self.assertEqual(audit(self.LOG, (told[0] + off, told[1], told[2] + off)), 2)
        self.assertEqual(audit(self.LOG, (told[1], told[0], told[2])), 2)

    def test_too_few_losses(self):
        told = losses(self.LOG)
        self.assertEqual(audit(self.LOG, told[:2]), 6)
        self.assertEqual(audit(self.LOG, told[:1]), 4)
        self.assertEqual(audit(self.LOG, ()), 2)
        self.assertEqual(audit(self.LOG, (told[0] + 1,)), 2)

    def test_too_many_losses(self):
        told = losses(self.LOG)
        self.assertEqual(audit(self.LOG, told + (0,)), 7)
        self.assertEqual(audit(self.LOG, told + (told[2], 5)), 7)
        self.assertEqual(audit(self.LOG, (told[0], told[1] + 1, told[2], 0)), 4)
        self.assertEqual(audit(self.LOG[:2], (0,)), 2)
        self.assertEqual(audit(self.LOG[:1], (0,)), 1)

    def test_a_boolean_is_no_told_loss(self):
        log = (("begin", ONE), ("data", (((10,), (11,)),)), ("step", "squares", (0,), 0, 0))
        self.assertEqual(losses(log), (1,))
        self.assertEqual(audit(log, (1,)), -1)
        self.assertEqual(audit(log, (True,)), 2)

    def test_an_entry_that_cannot_be_applied_is_told_ahead(self):
        told = losses(self.LOG)
        for place in range(1, 8):
            log = self.LOG[:place] + (("freeze", 1),) + self.LOG[place:]
            for losses_told in ((), told, told + (0,), (-1,)):
                with self.assertRaises(BadEntry) as caught:
                    audit(log, losses_told)
                self.assertEqual(caught.exception.place, place)
            with self.assertRaises(BadEntry) as caught:
                losses(log)
            self.assertEqual(caught.exception.place, place)

    def test_the_example_of_the_document(self):
        log = (("begin", ONE), ("data", (((10,), (30,)),)), ("step", "squares", (0,), 4096, 0))
        self.assertEqual((replay(log)[1], losses(log), audit(log, (400,)), audit(log, (399,))),
                         (("net", 1, (("dense", ((4096,),), (20,)),)), (400,), -1, 2))


class Arguments(unittest.TestCase):
    def test_they_stay(self):
        rng = random.Random(64)
        for _ in range(20):
            log = some_log(rng)
            before = copy.deepcopy(log)
            state = replay(log)
            kept = copy.deepcopy(state)
            losses(log)
            audit(log, (1, 2))
            compact(log)
            go_on(state, log[1:], 1)
            is_state(state)
            self.assertEqual((log, state), (before, kept))


if __name__ == "__main__":
    unittest.main()
