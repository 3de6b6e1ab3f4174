"""Exchanges: turns ahead, deeds that may be exchanged, and the rows that come by exchanges."""

import unittest
from math import factorial

from coatrows.comparing import alike, count_orders, least_order, may_exchange, turns_ahead
from coatrows.errors import InvalidNumber, TooMany, UnknownRegion
from coatrows.facts import Facts
from coatrows.rows import Row
from tests.checking import NO_INDICES_OF_THREE, Checked

ABC = ["a", "b", "c"]
FACTS = Facts(ABC, [("in", "a", "b"), ("apart", "b", "c")])
FREE = Facts(ABC, [])
ROW = Row([("put", "red", "b"), ("put", "blue", "a"), ("fill", "green", "c")])
STRANGE = Row([("put", "red", "a"), ("fill", "blue", "z"), ("wipe", "y")])


class TurnsAhead(Checked):
    def test_ordinary(self):
        row = Row([
            ("put", "x", "a"), ("turn", "x", "y"), ("fill", "x", "b"), ("wipe", "c"), ("turn", "y", "z"),
            ("put", "y", "c"), ("turn", "x", "y"), ("fill", "x", "c"),
        ])
        ahead = self.fresh(turns_ahead, row)
        self.assertEqual(ahead.deeds(), [
            ("turn", "x", "y"), ("turn", "y", "z"), ("turn", "x", "y"), ("put", "z", "a"), ("fill", "y", "b"),
            ("wipe", "c"), ("put", "y", "c"), ("fill", "x", "c"),
        ])
        self.assertTrue(alike(FREE, row, ahead))

    def test_edges(self):
        self.assertEqual(turns_ahead(row=Row([])), Row([]))
        self.assertEqual(turns_ahead(ROW), ROW)
        turns = Row([("turn", "x", "y"), ("turn", "y", "x"), ("turn", "x", "x")])
        self.assertEqual(turns_ahead(turns), turns)
        there = Row([("put", "x", "a"), ("turn", "x", "y"), ("turn", "y", "x")])
        self.assertEqual(turns_ahead(there).deeds(), there.deeds()[1:] + [("put", "x", "a")])
        same = Row([("fill", "x", "a"), ("turn", "x", "x")])
        self.assertEqual(turns_ahead(same).deeds(), [("turn", "x", "x"), ("fill", "x", "a")])
        many = Row([("put", "x", "a"), ("turn", "x", "y")] * 15)
        self.assertEqual(turns_ahead(many).deeds(), [("turn", "x", "y")] * 15 + [("put", "y", "a")] * 15)


class MayExchange(Checked):
    def may(self, facts, one, other):
        given = self.fresh(may_exchange, facts, Row([("wipe", "c"), one, other]), 1)
        self.assertIs(may_exchange(facts, Row([other, one]), 0), given)
        return given

    def test_puts(self):
        self.assertIs(self.may(FREE, ("put", "x", "a"), ("put", "y", "b")), False)
        self.assertIs(self.may(FREE, ("put", "x", "a"), ("put", "x", "b")), True)
        self.assertIs(self.may(FREE, ("put", "x", "a"), ("put", "x", "a")), True)
        self.assertIs(self.may(FREE, ("put", "x", "a"), ("put", "y", "a")), False)
        self.assertIs(self.may(FACTS, ("put", "x", "a"), ("put", "y", "b")), False)
        self.assertIs(self.may(FACTS, ("put", "x", "a"), ("put", "y", "c")), True)
        nothing = Facts(ABC, [("apart", "a", "a")])
        self.assertIs(self.may(nothing, ("put", "x", "a"), ("put", "y", "b")), True)
        whole = Facts(ABC, [("cover", "a", "a")])
        self.assertIs(self.may(whole, ("put", "x", "a"), ("put", "y", "b")), False)

    def test_other_kinds(self):
        self.assertIs(self.may(FREE, ("fill", "x", "a"), ("fill", "y", "b")), False)
        self.assertIs(self.may(FREE, ("fill", "x", "a"), ("fill", "x", "b")), True)
        self.assertIs(self.may(FREE, ("fill", "x", "a"), ("put", "x", "b")), True)
        self.assertIs(self.may(FREE, ("fill", "x", "a"), ("put", "y", "b")), True)
        self.assertIs(self.may(FREE, ("fill", "x", "a"), ("wipe", "b")), False)
        self.assertIs(self.may(FACTS, ("fill", "x", "a"), ("wipe", "c")), True)
        self.assertIs(self.may(FREE, ("wipe", "a"), ("wipe", "b")), True)
        self.assertIs(self.may(FREE, ("wipe", "a"), ("put", "x", "b")), False)
        self.assertIs(self.may(FREE, ("wipe", "a"), ("turn", "x", "y")), True)
        self.assertIs(self.may(FREE, ("put", "x", "a"), ("turn", "x", "y")), False)
        self.assertIs(self.may(FREE, ("put", "y", "a"), ("turn", "x", "y")), True)
        self.assertIs(self.may(FREE, ("put", "x", "a"), ("turn", "x", "x")), True)
        self.assertIs(self.may(FREE, ("turn", "x", "y"), ("turn", "y", "x")), False)
        self.assertIs(self.may(FREE, ("turn", "x", "y"), ("turn", "z", "y")), True)
        self.assertIs(self.may(FREE, ("turn", "x", "y"), ("turn", "y", "y")), True)

    def test_the_other_deeds_do_not_matter(self):
        row = Row([("put", "x", "a"), ("put", "y", "a"), ("wipe", "a")])
        self.assertIs(may_exchange(FREE, row, 0), False)
        self.assertIs(may_exchange(FREE, row, index=1), False)

    def test_refused(self):
        for thing in NO_INDICES_OF_THREE + [2]:
            self.refused(InvalidNumber, {"number": thing}, may_exchange, FACTS, ROW, thing)
        self.assertIs(may_exchange(FACTS, ROW, 1), True)
        for index in (0, -1):
            self.refused(InvalidNumber, {"number": index}, may_exchange, FACTS, Row([]), index)
            self.refused(InvalidNumber, {"number": index}, may_exchange, FACTS, Row([("wipe", "a")]), index)
        self.refused(UnknownRegion, {"region": "z"}, may_exchange, FACTS, STRANGE, None)


class Orders(Checked):
    def test_ordinary(self):
        self.assertEqual(self.fresh(least_order, FACTS, ROW).deeds(), [
            ("fill", "green", "c"), ("put", "red", "b"), ("put", "blue", "a"),
        ])
        self.assertEqual(self.fresh(count_orders, FACTS, ROW), 3)
        self.assertEqual(count_orders(FREE, ROW), 3)
        self.assertEqual(least_order(row=Row([]), facts=FREE), Row([]))
        self.assertEqual(count_orders(row=Row([]), facts=FREE), 1)

    def test_deeds_are_compared_as_tuples(self):
        row = Row([("wipe", "a"), ("wipe", "c"), ("turn", "b", "c"), ("wipe", "b"), ("turn", "a", "c")])
        self.assertEqual(least_order(FREE, row).deeds(), [
            ("turn", "a", "c"), ("turn", "b", "c"), ("wipe", "a"), ("wipe", "b"), ("wipe", "c"),
        ])
        self.assertEqual(count_orders(FREE, row), 120)

    def test_equal_deeds_are_not_exchanged(self):
        row = Row([("wipe", "a"), ("wipe", "a"), ("wipe", "b")])
        self.assertEqual(count_orders(FREE, row), 3)
        row = Row([("put", "y", "a"), ("put", "x", "b"), ("put", "y", "a")])
        self.assertEqual(least_order(FREE, row), row)
        self.assertEqual(count_orders(FREE, row), 1)
        self.assertEqual(count_orders(FREE, Row([("put", "y", "a")] * 12)), 1)

    def test_a_lesser_deed_that_waits(self):
        # The least deed of all stands behind one that it may not be exchanged with.
        row = Row([("wipe", "b"), ("put", "z", "c"), ("fill", "a", "b")])
        self.assertEqual(least_order(FACTS, row).deeds(), [("put", "z", "c"), ("wipe", "b"), ("fill", "a", "b")])
        self.assertEqual(count_orders(FACTS, row), 3)

    def test_twelve_and_thirteen_deeds(self):
        names = ["r" + letter for letter in "abcdefghijklm"]
        facts = Facts(names, [])
        wipes = [("wipe", name) for name in names]
        self.assertEqual(count_orders(facts, Row(wipes[:12])), factorial(12))
        self.refused(TooMany, {"limit": 12}, count_orders, facts, Row(wipes))
        self.refused(TooMany, {"limit": 12}, count_orders, facts, Row(wipes[:1] * 30))
        self.refused(UnknownRegion, {"region": "z"}, count_orders, FACTS, Row(STRANGE.deeds() * 5))
        self.assertEqual(least_order(facts, Row(wipes[::-1])).deeds(), wipes)

    def test_thirty_deeds(self):
        deeds = [("put", "x", "a"), ("put", "y", "b"), ("wipe", "c")] * 10
        self.assertEqual(least_order(FREE, Row(deeds)).deeds(), deeds)
        nothing = Facts(ABC, [("apart", "a", "a"), ("apart", "b", "b"), ("apart", "c", "c")])
        self.assertEqual(least_order(nothing, Row(deeds)).deeds(), sorted(deeds))

    def test_unknown_regions(self):
        self.refused(UnknownRegion, {"region": "z"}, least_order, FACTS, STRANGE)
        self.refused(UnknownRegion, {"region": "z"}, count_orders, FACTS, STRANGE)


if __name__ == "__main__":
    unittest.main()
