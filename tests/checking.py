"""What several tests use: how errors and times are checked, and odd values."""

import copy
import time
import unittest

# Values of all kinds that are no lists.
NO_LISTS = [None, True, 0, 1, 1.5, "", "ab", b"ab", (), ("a",), {}, {"a": 1}, {"a"}, object(), list]

# Values of all kinds that are no names.
NO_NAMES = [
    None, True, False, 0, 1, 1.5, "", "A", "aB", "a b", " a", "a1", "a_", "a-b", "a" * 13, "~", b"a",
    ["a"], ("a",), {"a": 1}, {"a"}, object(), [], (), {}, str,
]


class Equal:
    """Something that is equal to everything, but no name, claim or number."""

    def __eq__(self, other):
        return True

    def __hash__(self):
        return hash("a")


class Checked(unittest.TestCase):
    """A test that can check errors with their fields."""

    def refused(self, error, fields, call, *told, **named):
        """Check that a call raises just this error, with just these fields."""
        with self.assertRaises(error) as caught:
            call(*told, **named)
        self.assertIs(type(caught.exception), error)
        self.assertEqual(vars(caught.exception), fields)
        for name, worth in fields.items():
            self.assertIs(type(getattr(caught.exception, name)), type(worth))
        return caught.exception

    def untouched(self, call, *told):
        """Return what a call gives, and check that its arguments stay as they were."""
        before = copy.deepcopy(told)
        given = call(*told)
        self.assertEqual(told, before)
        return given

    def soon(self, call, *told):
        """Return what a call gives, and check that it ends within seconds."""
        start = time.monotonic()
        given = call(*told)
        self.assertLess(time.monotonic() - start, 5)
        return given
