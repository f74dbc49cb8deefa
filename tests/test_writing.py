"""Promises l3 to l6: written logs, reading and mending them, and taking up again."""

import copy
import random
import unittest

from tests.helper import some_log
from wholenet.errors import BadEntry, BadNumbers
from wholenet.numbers import MOST_SIGNAL, MOST_WEIGHT, UNIT
from wholenet.replay import compact, go_on, replay
from wholenet.writing import CHARACTERS, mended, read_log, resume, write_entry, write_log

TOP = MOST_SIGNAL
NONE = ("net", 1, ())
ONE = ("net", 1, (("dense", ((UNIT,),), (0,)),))
SHORT = (("begin", ONE), ("data", (((10,), (30,)), ((-3,), 0))), ("step", "squares", (0,), UNIT, 0), ("check",),
         ("freeze", 0), ("step", "margins", (1, 1), 7, 9), ("check",), ("thaw", 0))


def count(number):
    """A count as l3 words it."""
    digits = [number % 128]
    while number >= 128:
        number //= 128
        digits.append(number % 128)
    return [digit + 128 for digit in digits[:-1]] + digits[-1:]


def written(thing):
    """A thing as l3 words it."""
    if isinstance(thing, tuple):
        return [0] + count(len(thing)) + [number for part in thing for number in written(part)]
    if isinstance(thing, str):
        return [1] + count(len(thing)) + [CHARACTERS.index(sign) for sign in thing]
    return [2] + count(2 * thing if thing >= 0 else -2 * thing - 1)


def sealed(body):
    """An entry with this body, whatever it says."""
    s = sum((index + 1) * number for index, number in enumerate(body)) % 65521
    return [76] + count(len(body)) + list(body) + [s // 256, s % 256]


def entries_of(log):
    """The written entries of a log, one list for each."""
    return [write_entry(entry, replay(log[:at + 1])) for at, entry in enumerate(log)]


def joined(lists):
    return [number for numbers in lists for number in numbers]


class ListCase(unittest.TestCase):
    def no_log(self, numbers, log, many):
        """The list is no written log; mended keeps the log and so many numbers of it."""
        before = list(numbers)
        self.assertEqual(mended(numbers), (log, many))
        with self.assertRaises(BadNumbers) as caught:
            read_log(numbers)
        self.assertEqual(caught.exception.place, many)
        self.assertEqual(numbers, before)

    def cannot_stand(self, numbers, log=SHORT):
        """The numbers cannot stand behind the log, nor at the beginning, whatever is behind them."""
        start = write_log(log)
        for behind in ([], [76], start, sealed(written(("check",)))):
            self.no_log(start + numbers + behind, log, len(start))

    def stands(self, numbers, entry, log=SHORT):
        self.assertEqual(read_log(write_log(log) + numbers), log + (entry,))


class Written(unittest.TestCase):
    def test_characters(self):
        self.assertEqual(CHARACTERS, "\n" + "".join(chr(code) for code in range(32, 127) if code != 37))
        self.assertEqual(len(CHARACTERS), 95)

    def test_number_by_number(self):
        begin = [0, 2, 1, 5, 66, 69, 71, 73, 78, 0, 3, 1, 3, 78, 69, 84, 2, 2, 0, 0]
        begin_sum = sum((at + 1) * number for at, number in enumerate(begin))
        self.assertLess(begin_sum, 65521)
        check = [0, 2, 1, 5, 67, 72, 69, 67, 75,
                 0, 6, 1, 5, 83, 84, 65, 84, 69, 0, 3, 1, 3, 78, 69, 84, 2, 2, 0, 0, 0, 0, 0, 0, 0, 0, 2, 0]
        check_sum = sum((at + 1) * number for at, number in enumerate(check))
        told = [76, 20] + begin + [begin_sum // 256, begin_sum % 256]
        told += [76, 37] + check + [check_sum // 256, check_sum % 256]
        begin_word = [CHARACTERS.index(sign) for sign in "begin"]
        self.assertEqual(begin[4:9], begin_word)
        self.assertEqual(write_log((("begin", NONE), ("check",))), told)

    def test_a_sum_number_by_number(self):
        told = [76, 20, 0, 2, 1, 5, 66, 69, 71, 73, 78, 0, 3, 1, 3, 78, 69, 84, 2, 2, 0, 0, 24, 35]
        self.assertEqual(write_log((("begin", NONE),)), told)

    def test_each_kind(self):
        state = replay(SHORT[:7])
        for entry in SHORT[:3] + (("freeze", 0), ("thaw", 0), ("state", state), ("data", ()), ("begin", NONE)):
            self.assertEqual(write_entry(entry, state), sealed(written(entry)))
            self.assertEqual(write_entry(entry, replay(SHORT[:1])), sealed(written(entry)))
        self.assertEqual(write_entry(("check",), state), sealed(written(("check", state))))

    def test_integers(self):
        for number, told in ((0, [0]), (1, [2]), (-1, [1]), (2, [4]), (-2, [3]), (63, [126]), (-64, [127]), (64, [128, 1]),
                             (-65, [129, 1]), (8191, [254, 127]), (-8192, [255, 127]), (8192, [128, 128, 1]),
                             (TOP, [128, 128, 128, 16]), (-TOP, [255, 255, 255, 15])):
            body = [0, 2, 1, 4, 68, 65, 84, 65, 0, 1, 0, 2, 0, 1, 2] + told + [2, 0]
            self.assertEqual(write_entry(("data", (((number,), 0),)), ()), sealed(body))

    def test_long_counts(self):
        examples = (((1,), 0),) * 300
        body = [0, 2, 1, 4, 68, 65, 84, 65, 0, 172, 2] + [0, 2, 0, 1, 2, 2, 2, 0] * 300
        numbers = write_entry(("data", examples), ())
        self.assertEqual(numbers[:3], [76] + count(2411))
        self.assertEqual(count(2411), [107 + 128, 18])
        self.assertEqual(numbers[3:-2], body)
        s = sum((at + 1) * number for at, number in enumerate(body))
        self.assertGreater(s, 65521 * 10)
        self.assertEqual(numbers[-2:], [s % 65521 // 256, s % 65521 % 256])

    def test_a_check_has_the_state_at_its_place(self):
        numbers = write_log(SHORT)
        self.assertEqual(numbers, joined(entries_of(SHORT)))
        for at in (3, 6):
            state = replay(SHORT[:at])
            self.assertEqual(entries_of(SHORT)[at], sealed(written(("check", state))))
        self.assertNotEqual(replay(SHORT[:3]), replay(SHORT[:6]))

    def test_some_logs(self):
        rng = random.Random(71)
        for _ in range(60):
            log = some_log(rng)
            numbers = write_log(log)
            self.assertIs(type(numbers), list)
            self.assertTrue(all(type(number) is int and 0 <= number <= 255 for number in numbers))
            told = []
            for at, entry in enumerate(log):
                told += sealed(written(("check", replay(log[:at])) if entry[0] == "check" else entry))
            self.assertEqual(numbers, told)
            self.assertEqual(read_log(numbers), log)
            self.assertEqual(mended(numbers), (log, len(numbers)))
            self.assertEqual(resume(numbers), replay(log))

    def test_entries_that_cannot_be_applied(self):
        for place, log in ((0, ()), (0, (("check",),)), (0, SHORT[1:]), (1, SHORT[:1] + SHORT), (8, SHORT + (("freeze", 1),)),
                           (1, (("begin", ONE), ("check",) + ("check",))), (2, SHORT[:2] + (None, ("freeze", 1)))):
            with self.assertRaises(BadEntry) as caught:
                write_log(log)
            self.assertEqual(caught.exception.place, place)

    def test_ten_thousand_entries(self):
        log = (("begin", NONE),) + (("data", ()),) * 9999
        numbers = write_log(log)
        self.assertEqual(read_log(numbers), log)
        self.assertEqual(resume(numbers), replay(log))
        with self.assertRaises(BadEntry) as caught:
            write_log(log + (("data", ()),))
        self.assertEqual(caught.exception.place, 10000)
        for entry in (("data", ()), ("check",)):
            more = write_entry(entry, replay(log))
            self.assertEqual(mended(numbers + more + more), (log, len(numbers)))
            with self.assertRaises(BadNumbers) as caught:
                read_log(numbers + more)
            self.assertEqual(caught.exception.place, len(numbers))


class Cuts(ListCase):
    def test_the_empty_list(self):
        self.no_log([], (), 0)

    def test_cut_off_anywhere(self):
        numbers = write_log(SHORT)
        ends = [len(write_log(SHORT[:many])) for many in range(1, len(SHORT) + 1)]
        for cut in range(len(numbers) + 1):
            whole = len([end for end in ends if end <= cut])
            kept = ends[whole - 1] if whole else 0
            self.assertEqual(mended(numbers[:cut]), (SHORT[:whole], kept))
            if cut in ends:
                self.assertEqual(read_log(numbers[:cut]), SHORT[:whole])
            else:
                self.no_log(numbers[:cut], SHORT[:whole], kept)
            for behind in ([0], [76], [76, 0], [76, 0, 0, 0], [999], [-1], [255] * 20, [0] * 2000, numbers[cut + 1:]):
                if cut + 1 < len(numbers) or behind:
                    self.no_log(numbers[:cut] + behind, SHORT[:whole], kept)

    def test_some_logs(self):
        rng = random.Random(72)
        for _ in range(6):
            log = some_log(rng)
            numbers = write_log(log)
            ends = [len(write_log(log[:many])) for many in range(1, len(log) + 1)]
            for cut in sorted(rng.sample(range(len(numbers) + 1), 60)) + ends:
                whole = len([end for end in ends if end <= cut])
                self.assertEqual(mended(numbers[:cut]), (log[:whole], ends[whole - 1] if whole else 0))

    def test_gone_on_with(self):
        rng = random.Random(73)
        for log in [SHORT] + [some_log(rng, 6) for _ in range(6)]:
            numbers = write_log(log)
            lists = entries_of(log)
            cuts = range(len(numbers) + 1) if log == SHORT else sorted(rng.sample(range(len(numbers)), 30))
            for cut in cuts:
                kept_log, many = mended(numbers[:cut])
                kept = numbers[:many]
                if not kept_log:
                    continue
                state = resume(kept)
                self.assertEqual(state, replay(kept_log))
                for entry in log[len(kept_log):]:
                    state = go_on(state, (entry,), len(kept_log))
                    kept_log += (entry,)
                    kept += write_entry(entry, state)
                self.assertEqual(state, replay(log))
                self.assertEqual(kept, numbers)
                self.assertEqual(kept, joined(lists))


class Changed(ListCase):
    LOG = SHORT[:1] + (("data", (((10,), (30,)), ((-3,), 0))), ("check",), ("freeze", 0))

    def test_each_number_changed(self):
        numbers = write_log(self.LOG)
        ends = [len(write_log(self.LOG[:many])) for many in range(1, len(self.LOG) + 1)]
        for at, number in enumerate(numbers):
            whole = len([end for end in ends if end <= at])
            for other in (number + 1, number - 1, number ^ 128, number ^ 1, 0, 76, 255, 256, -1, -number, number + 256,
                          number - 256, number + 65521, 10 ** 30, -10 ** 30):
                if other != number:
                    changed = numbers[:at] + [other] + numbers[at + 1:]
                    self.no_log(changed, self.LOG[:whole], ends[whole - 1] if whole else 0)

    def test_every_value_of_a_number(self):
        numbers = write_log((("begin", NONE),))
        for at, number in enumerate(numbers):
            for other in range(-3, 260):
                if other != number:
                    self.no_log(numbers[:at] + [other] + numbers[at + 1:], (), 0)

    def test_booleans_are_no_numbers(self):
        numbers = write_log((("begin", NONE),))
        for at, number in enumerate(numbers):
            if number in (0, 1):
                self.no_log(numbers[:at] + [bool(number)] + numbers[at + 1:], (), 0)

    def test_two_numbers_exchanged(self):
        numbers = write_log((("begin", NONE),))
        for at in range(len(numbers) - 1):
            if numbers[at] != numbers[at + 1]:
                self.no_log(numbers[:at] + [numbers[at + 1], numbers[at]] + numbers[at + 2:], (), 0)

    def test_numbers_left_out_or_put_in(self):
        numbers = write_log((("begin", NONE),))
        for at in range(len(numbers)):
            shorter = numbers[:at] + numbers[at + 1:]
            if shorter != numbers:
                self.no_log(shorter, (), 0)
            for more in (0, 1, 76, 255):
                self.no_log(numbers[:at] + [more] + numbers[at:], (), 0)

    def test_entries_in_another_order(self):
        lists = entries_of(SHORT)
        self.no_log(joined(lists[1:]), (), 0)
        self.no_log(joined(lists[::-1]), (), 0)
        self.no_log(joined(lists[:1] + lists), SHORT[:1], len(lists[0]))
        self.no_log(joined(lists[:2] + lists[3:]), SHORT[:2], len(lists[0] + lists[1]))


class Bodies(ListCase):
    """Entries with the right length and sum whose bodies are none of those that are written."""

    def test_what_stands(self):
        for entry in (("freeze", 0), ("data", ()), ("data", (((7,), (8,)),)), ("step", "squares", (0, 0), 1, 2)):
            self.stands(sealed(written(entry)), entry)
        self.stands(sealed(written(("check", replay(SHORT)))), ("check",))

    def test_things_that_are_no_entries(self):
        for thing in ((), (0,), 0, 5, -1, "", "check", "freeze", ("check",), ("end",), (("check",),), ("freeze",),
                      ("freeze", 0, 0), ("freeze", "0"), ("", 0), ((), 0)):
            self.cannot_stand(sealed(written(thing)))

    def test_entries_that_cannot_be_applied_there(self):
        state = replay(SHORT)
        for thing in (("freeze", 1), ("thaw", -1), ("begin", ONE), ("begin", NONE), ("state", state),
                      ("data", (((7, 8), (8,)),)), ("data", (((TOP + 1,), 0),)), ("step", "squares", (1,), 0, 0),
                      ("step", "squares", (2,), 0, 0), ("step", "squares", (0,), UNIT + 1, 0), ("step", "squares", (), 0, 0),
                      ("step", "other", (0,), 0, 0)):
            self.cannot_stand(sealed(written(thing)))
        for thing in (("check", ("state", ONE, (((((0,),), (0,)),)), (), (), 0)), ("freeze", 0), ("data", ()), ("begin", ()),
                      ("begin", ("net", 0, ())), ("state", ONE), ("begin",)):
            self.no_log(sealed(written(thing)), (), 0)

    def test_first_entries_that_stand(self):
        state = replay(SHORT)
        self.assertEqual(read_log(sealed(written(("state", state)))), (("state", state),))
        self.assertEqual(read_log(sealed(written(("begin", ONE)))), (("begin", ONE),))

    def test_a_check_with_another_state(self):
        state = replay(SHORT)
        for other in (replay(SHORT[:6]), replay(SHORT[:-1]), state[:5] + (state[5] + 1,), state[:5], (), 0, "", "state",
                      state + (0,), (state,), ("check",) + state[1:]):
            self.cannot_stand(sealed(written(("check", other))))
        for thing in (("check", state, state), ("check", state, 0), ("check",), (("check", state),), ("check", "state")):
            self.cannot_stand(sealed(written(thing)))

    def test_every_check_is_looked_at(self):
        lists = entries_of(SHORT)
        for at in (3, 6):
            state = replay(SHORT[:at])
            other = state[:5] + (state[5] + 1,)
            lists_with = lists[:at] + [sealed(written(("check", other)))] + lists[at + 1:]
            self.no_log(joined(lists_with), SHORT[:at], len(joined(lists[:at])))

    def test_counts_that_are_longer_than_they_need_be(self):
        body = written(("freeze", 0))
        plain = sealed(body)
        self.assertEqual(plain[:2], [76, len(body)])
        self.stands(plain, ("freeze", 0))
        for longer in ([len(body) + 128, 0], [len(body) + 128, 128, 0], [len(body) + 128] + [128] * 8 + [0]):
            self.cannot_stand([76] + longer + plain[2:])
        for at, part in ((1, 2), (3, 6), (len(body) - 1, 0)):
            self.assertEqual(body[at], part)
            for longer in ([part + 128, 0], [part + 128, 128, 0], [part + 128] + [128] * 8 + [0]):
                self.cannot_stand(sealed(body[:at] + longer + body[at + 1:]))

    def test_counts_of_more_than_ten_digits(self):
        body = written(("freeze", 0))
        for many in (9, 10, 11, 12, 40, 1000):
            for last in (0, 1, 127, 128, 255):
                self.cannot_stand([76] + [128] * (many - 1) + [last] + body)
                self.cannot_stand([76] + [body[1] + 128] + [128] * (many - 1) + [last] + body)
                self.cannot_stand(sealed(body[:-1] + [128] * (many - 1) + [last]))
                self.cannot_stand(sealed([0] + [255] * (many - 1) + [last] + body[2:]))
                self.cannot_stand(sealed([1] + [255] * (many - 1) + [last] + body[2:]))

    def test_digits_below_0_and_above_255(self):
        body = written(("freeze", 0))
        for digits in ([255, -1], [254, -1], [256, -1], [-1], [-2], [384, -2], [128 - 256, 2]):
            self.cannot_stand(sealed(body[:-1] + digits))
        self.stands(sealed(written(("data", (((128,), 0),)))), ("data", (((128,), 0),)))
        body = written(("data", (((128,), 0),)))
        self.assertEqual(body[-4:], [128, 2, 2, 0])
        for digits in ([256, 1], [384, 0], [127 + 128 + 1, 1], [0, 2], [-128, 2], [640, -2]):
            self.cannot_stand(sealed(body[:-4] + digits + body[-2:]))

    def test_lengths_beyond_the_end(self):
        body = written(("freeze", 0))
        plain = sealed(body)
        for length in (0, 1, len(body) - 1, len(body) + 1, len(body) + 2, 127, 128, 16384, 128 ** 9, 128 ** 10 - 1):
            numbers = [76] + count(length) + plain[2:]
            start = write_log(SHORT)
            self.no_log(start + numbers, SHORT, len(start))

    def test_other_marks_and_kinds(self):
        plain = sealed(written(("freeze", 0)))
        for mark in (0, 1, 2, 75, 77, 204, 255, 332, -76):
            self.cannot_stand([mark] + plain[1:])
        body = written(("freeze", 0))
        for kind in (3, 4, 128, 255):
            self.cannot_stand(sealed([kind] + body[1:]))
            self.cannot_stand(sealed(body[:2] + [kind] + body[3:]))

    def test_characters_that_there_are_not(self):
        for index in (95, 96, 127, 128, 255):
            body = written(("freeze", 0))
            self.cannot_stand(sealed(body[:4] + [index] + body[5:]))

    def test_bodies_that_end_too_early_or_too_late(self):
        body = written(("freeze", 0))
        self.cannot_stand(sealed(body + [0]))
        self.cannot_stand(sealed(body + [0, 0]))
        self.cannot_stand(sealed(body + body))
        for cut in range(len(body)):
            self.cannot_stand(sealed(body[:cut]))

    def test_another_sum(self):
        plain = sealed(written(("freeze", 0)))
        high, low = plain[-2:]
        for pair in ([high, low + 1], [high, low - 1], [high + 1, low], [high - 1, low + 256], [high + 1, low - 256],
                     [low, high], [0, 256 * high + low], [high, low + 65521], [high + 256, low]):
            self.cannot_stand(plain[:-2] + pair)

    def test_a_sum_in_another_remainder(self):
        body = written(("data", (((TOP,), (-TOP,)),) * 40))
        plain = sealed(body)
        s = sum((index + 1) * number for index, number in enumerate(body))
        self.assertGreater(s, 65536 * 2)
        self.stands(plain, ("data", (((TOP,), (-TOP,)),) * 40))
        for modulus in (65536, 65535, 65537, 65519):
            self.assertNotEqual(s % modulus, s % 65521)
            self.cannot_stand(plain[:-2] + [s % modulus // 256, s % modulus % 256])

    def test_nested_too_deep(self):
        for depth in (1, 5, 11, 12, 13, 14, 100, 100000):
            deep = [0, 1] * (depth - 1) + [0, 0]
            self.cannot_stand(sealed(deep))
            self.no_log(sealed(deep), (), 0)
            self.cannot_stand(sealed([0, 2] + written("check") + deep))
            if depth > 1:
                self.cannot_stand(sealed([0, 2] + written("data") + deep))
            self.cannot_stand(sealed([0, 1] * depth))

    def test_long_lists_of_anything(self):
        rng = random.Random(74)
        for _ in range(200):
            most = rng.choice((3, 80, 255, 300))
            numbers = [rng.randint(0, most) for _ in range(rng.randint(1, 60))]
            self.no_log(numbers, (), 0)
            self.no_log([76] + numbers, (), 0)
            self.cannot_stand(sealed(numbers) if most < 256 else numbers)
        for numbers in ([10 ** 40], [-10 ** 40] * 3, [76] * 10000, [0] * 100000, [255] * 1000):
            self.no_log(numbers, (), 0)


class Resume(unittest.TestCase):
    def test_no_check(self):
        log = (SHORT[0], SHORT[1], SHORT[2], SHORT[4], SHORT[5])
        for many in range(1, len(log) + 1):
            self.assertEqual(resume(write_log(log[:many])), replay(log[:many]))

    def test_one_and_several(self):
        for many in range(1, len(SHORT) + 1):
            self.assertEqual(resume(write_log(SHORT[:many])), replay(SHORT[:many]))
        for entries in ((("check",),), (("check",), ("check",)), (("check",), ("freeze", 0), ("check",))):
            self.assertEqual(resume(write_log(SHORT + entries)), replay(SHORT + entries))
            self.assertEqual(resume(write_log(SHORT[:1] + entries)), replay(SHORT[:1] + entries))

    def test_by_the_last_check(self):
        # The written numbers ahead of the last check are passed over: its state alone counts.
        lists = entries_of(SHORT)
        state = replay(SHORT[:6])
        other = state[:5] + (state[5] + 100,)
        numbers = joined(lists[:6] + [sealed(written(("check", other)))] + lists[7:])
        self.assertEqual(resume(numbers), go_on(other, SHORT[7:], 7))
        self.assertEqual(resume(numbers)[5], 102)

    def test_by_a_state_at_the_beginning(self):
        state = replay(SHORT)
        for behind in ((), (("freeze", 0),), (("check",), ("freeze", 0)), (("freeze", 0), ("check",))):
            log = (("state", state),) + behind
            self.assertEqual(resume(write_log(log)), replay(log))
            self.assertEqual(read_log(write_log(log)), log)
        self.assertEqual(resume(write_log(compact(SHORT))), state)

    def test_the_numbers_of_an_example_are_no_check(self):
        # These examples hold the numbers with which the body of a check begins.
        values = (0, 1, -1, 2, 33, -34, 36, -35, 34, -38)
        log = (("begin", ONE), ("data", tuple(((x,), 0) for x in values)), ("freeze", 0))
        self.assertEqual(resume(write_log(log)), replay(log))


class Others(unittest.TestCase):
    def test_the_example_of_the_document(self):
        log = (("begin", NONE), ("check",))
        numbers = write_log(log)
        self.assertEqual((mended(numbers[:-1])[0], mended(numbers)[1] == len(numbers)), ((("begin", NONE),), True))
        self.assertEqual(mended(numbers[:-1])[0], (("begin", NONE),))

    def test_the_greatest_numbers(self):
        net = ("net", 1, (("dense", ((-MOST_WEIGHT,),), (MOST_WEIGHT,)), ("clamp", -TOP, TOP)))
        state = ("state", net, ((((MOST_WEIGHT,),), (-MOST_WEIGHT,)), ()), (((-TOP,), (TOP,)),) * 1000, (0, 1), 2 ** 40)
        log = (("state", state), ("check",))
        self.assertEqual(read_log(write_log(log)), log)
        self.assertEqual(resume(write_log(log)), state)

    def test_layers_of_every_kind_go_through(self):
        branch = (("dense", ((1, 2), (3, 4)), (5, 6)), ("conv", ((7,),), (8,), 1), ("relu",), ("clamp", -1, 1), ("max", 1))
        net = ("net", 2, (("sum", branch, (("mean", 1),)), ("fork", (), branch), ("max", 2), ("mean", 2)))
        log = (("begin", net), ("check",), ("freeze", 3))
        self.assertEqual(read_log(write_log(log)), log)
        self.assertEqual(resume(write_log(log)), replay(log))

    def test_the_arguments_stay(self):
        numbers = write_log(SHORT)
        kept, log, state = list(numbers), copy.deepcopy(SHORT), replay(SHORT)
        before = copy.deepcopy(state)
        for function in (mended, read_log, resume):
            function(numbers)
        write_log(SHORT)
        write_entry(("check",), state)
        self.assertEqual((numbers, SHORT, state), (kept, log, before))


if __name__ == "__main__":
    unittest.main()
