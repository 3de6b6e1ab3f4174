"""What several tests use: how errors and times are checked, and odd values."""

import copy
import time
import unittest

from coatrows.facts import Facts
from coatrows.rows import Row

# Values of all kinds that are no lists.
NO_LISTS = [None, True, 0, 1, 1.5, "", "ab", b"ab", (), ("a",), {}, {"a": 1}, {"a"}, object(), list]

# Values of all kinds that are no names.
NO_NAMES = [
    None, True, False, 0, 1, 1.5, "", "A", "aB", "a b", " a", "a1", "a_", "a-b", "a" * 13, "~", b"a",
    ["a"], ("a",), {"a": 1}, {"a"}, object(), [], (), {}, str,
]


class Equal:
    """Something that is equal to everything, but no name, claim or number."""

    def __eq__(self, other):
        return True

    def __hash__(self):
        return hash("a")


# What is no patch of the regions a, b and c, with the field index of InvalidPatch.
WRONG_PATCHES = [(thing, None) for thing in NO_LISTS] + [([thing], 0) for thing in NO_NAMES + [Equal(), "d", "ab"]] + [
    (["b", "a"], 1), (["a", "a"], 1), (["a", "c", "b"], 2), (["a", "c", "c"], 2), (["c", "c", None], 1),
    (["a", "b", "c", "a"], 3), (["a", True, "b"], 1), (["a", ["b"]], 1), (["b", Equal()], 1), (["c", "d", "a"], 1),
]

# What is no list of claims about the regions a, b and c, with the field index of InvalidClaim.
WRONG_CLAIMS = [(thing, None) for thing in NO_LISTS] + [([thing], 0) for thing in NO_NAMES + [Equal(), "a"]] + [
    ([("a", True), thing], 1) for thing in (
        ("a", 1), ("a", 0), ("a", None), ("a", "True"), ("a", 1.0), ("a", Equal()), ("d", True), (Equal(), True),
        ("a",), ("a", True, True), ["a", True], (["a"], True), (True, "a"), ({}, False), "at",
    )
] + [([("b", True), ("b", False), ("a", True), ("a", 2), None], 3)]

# What is no index of three things.
NO_INDICES_OF_THREE = [
    None, True, False, -1, -3, 3, 4, 10 ** 39, 1.0, 0.0, 1.5, "0", "", b"0", [], [0], (), (0,), {}, slice(0, 1), Equal(),
]


def words(thing):
    """Return a copy of something in which facts and rows are told by what they were made of."""
    if isinstance(thing, Facts):
        return "facts", thing.regions(), thing.stated()
    if isinstance(thing, Row):
        return "row", thing.deeds()
    if isinstance(thing, (list, tuple)):
        return type(thing)([words(part) for part in thing])
    return copy.copy(thing) if isinstance(thing, (dict, set)) else thing


def lists_in(thing):
    """Return all lists in something."""
    if not isinstance(thing, (list, tuple)):
        return []
    inner = [found for part in thing for found in lists_in(part)]
    return [thing] + inner if isinstance(thing, list) else inner


class Checked(unittest.TestCase):
    """A test that can check errors with their fields."""

    def refused(self, error, fields, call, *told, **named):
        """Check that a call raises just this error, with just these fields."""
        with self.assertRaises(error) as caught:
            call(*told, **named)
        self.assertIs(type(caught.exception), error)
        self.assertEqual(vars(caught.exception), fields)
        for name, worth in fields.items():
            self.assertIs(type(getattr(caught.exception, name)), type(worth))
        return caught.exception

    def untouched(self, call, *told):
        """Return what a call gives, and check that its arguments stay as they were."""
        before = copy.deepcopy(told)
        given = call(*told)
        self.assertEqual(told, before)
        return given

    def fresh(self, call, *told):
        """Return what a call gives; check that it is new, and that arguments stay as they were."""
        before = words(told)
        given = call(*told)
        kept = words(given)
        found = lists_in(given)
        self.assertEqual(len({id(part) for part in found}), len(found))
        for part in found:
            part.clear()
            part.append("spoilt")
        self.assertEqual(words(told), before)
        again = call(*told)
        self.assertEqual(words(again), kept)
        return again

    def soon(self, call, *told):
        """Return what a call gives, and check that it ends within seconds."""
        start = time.monotonic()
        given = call(*told)
        self.assertLess(time.monotonic() - start, 5)
        return given
