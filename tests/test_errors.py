"""The interface of wholenet.errors."""

import unittest

from wholenet import errors
from wholenet.errors import BadBox, BadDemand, BadEntry, BadNet, BadNumbers, NetError

RAISED = (BadNet, BadEntry, BadNumbers, BadBox, BadDemand)


class Families(unittest.TestCase):
    def test_base_is_a_value_error(self):
        self.assertEqual(NetError.__bases__, (ValueError,))

    def test_all_others_are_under_the_base_alone(self):
        for kind in RAISED:
            self.assertTrue(issubclass(kind, NetError), kind)
            for other in RAISED:
                self.assertEqual(issubclass(kind, other), kind is other, (kind, other))

    def test_each_is_defined_in_its_file(self):
        for kind in (NetError, *RAISED):
            self.assertEqual(kind.__module__, "wholenet.errors")
            self.assertIs(getattr(errors, kind.__name__), kind)

    def test_the_base_is_caught_for_each(self):
        for error in (BadNet(0, "not a net"), BadEntry(0), BadNumbers(0), BadBox(), BadDemand()):
            with self.assertRaises(NetError):
                raise error


class Fields(unittest.TestCase):
    def test_bad_net(self):
        error = BadNet(3, "wrong length")
        self.assertEqual((error.line, error.reason), (3, "wrong length"))
        self.assertEqual(vars(error), {"line": 3, "reason": "wrong length"})

    def test_bad_net_by_names(self):
        error = BadNet(line=0, reason="not a net")
        self.assertEqual((error.line, error.reason), (0, "not a net"))

    def test_bad_net_needs_both(self):
        for told in ((), (1,), (1, "x", 2)):
            with self.assertRaises(TypeError):
                BadNet(*told)

    def test_places(self):
        for kind in (BadEntry, BadNumbers):
            self.assertEqual(kind(0).place, 0)
            self.assertEqual(vars(kind(place=17)), {"place": 17})
            for told in ((), (1, 2)):
                with self.assertRaises(TypeError):
                    kind(*told)

    def test_without_arguments(self):
        for kind in (BadBox, BadDemand):
            self.assertEqual(vars(kind()), {})

    def test_fields_belong_to_one_error(self):
        one, other = BadEntry(1), BadEntry(2)
        self.assertEqual((one.place, other.place), (1, 2))

    def test_str_gives_a_string(self):
        for error in (BadNet(1, "x"), BadEntry(1), BadNumbers(1), BadBox(), BadDemand()):
            self.assertIsInstance(str(error), str)


if __name__ == "__main__":
    unittest.main()
