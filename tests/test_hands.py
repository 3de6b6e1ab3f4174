"""Hands: two of them, any number of them, fills from above, and facts that help."""

import unittest

from coatrows.comparing import alike
from coatrows.errors import InvalidDeed, TooMany, UnknownRegion
from coatrows.facts import Facts
from coatrows.hands import from_above, hands_agree, hands_part, helping
from coatrows.rows import Row, shown
from tests import plain
from tests.checking import Checked

ABC = ["a", "b", "c"]
FACTS = Facts(ABC, [("in", "a", "b"), ("apart", "b", "c")])
FREE = Facts(ABC, [])
EMPTY = Row([])
ROW = Row([("put", "red", "b"), ("put", "blue", "a"), ("fill", "green", "c")])
SWAPPED = Row([("put", "blue", "a"), ("put", "red", "b"), ("fill", "green", "c")])
TURN = Row([("wipe", "z"), ("put", "x", "a"), ("turn", "x", "x")])
STRANGE = Row([("wipe", "a"), ("put", "x", "z"), ("wipe", "y")])


class HandsPart(Checked):
    def part(self, facts, one, other):
        given = self.fresh(hands_part, facts, Row(one), Row(other))
        self.assertEqual(hands_part(facts, Row(other), Row(one)), given)
        return given

    def test_puts(self):
        self.assertEqual(self.part(FACTS, [("put", "red", "a")], [("put", "blue", "b")]), (["a", "b"], ["blue", "red"]))
        self.assertIsNone(self.part(FACTS, [("put", "red", "a")], [("put", "red", "b")]))
        self.assertIsNone(self.part(FACTS, [("put", "red", "a")], [("put", "blue", "c")]))
        self.assertEqual(self.part(FREE, [("put", "red", "a")], [("put", "blue", "c")]), (["a", "c"], ["blue", "red"]))
        self.assertIsNone(hands_part(other=EMPTY, one=ROW, facts=FREE))

    def test_no_deeds(self):
        self.assertIsNone(self.part(FREE, [], []))
        self.assertIsNone(self.part(FREE, [], [("wipe", "a"), ("fill", "x", "a"), ("put", "y", "b")]))

    def test_fills(self):
        self.assertIsNone(self.part(FREE, [("fill", "x", "a")], [("fill", "x", "b")]))
        self.assertEqual(self.part(FREE, [("fill", "x", "a")], [("fill", "y", "b")]), (["a", "b"], ["x", "y"]))
        self.assertIsNone(self.part(FACTS, [("fill", "x", "a")], [("fill", "y", "c")]))
        # The second fill of a row is never the first one.
        both = [("fill", "x", "a"), ("fill", "y", "b")]
        self.assertEqual(self.part(FREE, both, [("fill", "x", "b")]), (["b"], ["x", "y"]))
        self.assertIsNone(self.part(FREE, both, [("fill", "x", "a")]))

    def test_fills_behind_a_wipe_of_the_same_hand(self):
        self.assertIsNone(self.part(FREE, [("wipe", "a"), ("fill", "x", "a")], []))
        self.assertEqual(self.part(FREE, [("wipe", "a"), ("fill", "x", "b")], [("wipe", "b")]), (["b"], [None, "x"]))
        self.assertEqual(
            self.part(FREE, [("wipe", "a"), ("fill", "x", "b"), ("fill", "y", "a")], [("wipe", "a")]),
            (["a"], [None, "y"]),
        )
        self.assertIsNone(self.part(FREE, [("wipe", "a"), ("fill", "x", "a")], [("fill", "x", "a")]))
        self.assertEqual(self.part(FREE, [("wipe", "a"), ("fill", "x", "a")], [("put", "y", "a")]), (["a"], ["x", "y"]))

    def test_fills_behind_a_wipe_of_the_other_hand(self):
        self.assertEqual(self.part(FACTS, [("wipe", "b")], [("fill", "red", "b"), ("fill", "blue", "a")]), (
            ["b"], [None, "red"]
        ))
        self.assertEqual(self.part(FREE, [("wipe", "a")], [("fill", "x", "a"), ("fill", "y", "a")]), (
            ["a"], [None, "x", "y"]
        ))
        self.assertEqual(
            self.part(FREE, [("wipe", "a"), ("fill", "z", "a")], [("fill", "x", "a"), ("fill", "y", "a")]),
            (["a"], ["x", "y", "z"]),
        )
        # Fills ahead of the other hand's last deed do not show.
        self.assertIsNone(self.part(FREE, [("wipe", "a")], [("fill", "x", "a"), ("wipe", "a")]))
        self.assertEqual(self.part(FREE, [("wipe", "a")], [("put", "x", "a"), ("fill", "y", "a")]), (
            ["a"], [None, "x", "y"]
        ))
        self.assertEqual(self.part(FREE, [("wipe", "a")], [("fill", "x", "a"), ("put", "y", "b"), ("fill", "z", "a")]), (
            ["a"], [None, "x", "z"]
        ))

    def test_regions_that_are_empty_or_everything(self):
        nothing = Facts(ABC, [("apart", "a", "a")])
        self.assertIsNone(self.part(nothing, [("put", "x", "a")], [("wipe", "b"), ("wipe", "a")]))
        whole = Facts(ABC, [("cover", "a", "a")])
        self.assertEqual(self.part(whole, [("put", "x", "b")], [("put", "y", "a")]), (["a", "b"], ["x", "y"]))
        self.assertIsNone(self.part(whole, [("put", "x", "b"), ("put", "y", "a")], [("put", "y", "a")]))

    def test_kinds_ahead_of_regions_row_by_row(self):
        self.refused(InvalidDeed, {"index": 2}, hands_part, FACTS, TURN, TURN)
        self.refused(InvalidDeed, {"index": 2}, hands_part, FACTS, ROW, TURN)
        self.refused(InvalidDeed, {"index": 0}, hands_part, FACTS, Row([("turn", "x", "y")] * 13), STRANGE)
        self.refused(UnknownRegion, {"region": "z"}, hands_part, FACTS, STRANGE, TURN)
        self.refused(UnknownRegion, {"region": "z"}, hands_part, FACTS, ROW, Row(STRANGE.deeds() * 5))
        self.refused(UnknownRegion, {"region": "y"}, hands_part, FACTS, Row([("wipe", "y")]), STRANGE)
        self.refused(InvalidDeed, {"index": 2}, hands_part, FACTS, Row([("wipe", "a")] * 13), TURN)

    def test_twelve_and_thirteen_deeds(self):
        twelve, thirteen = Row([("wipe", "a")] * 12), Row([("wipe", "a")] * 13)
        self.assertIsNone(hands_part(FREE, twelve, twelve))
        self.refused(TooMany, {"limit": 12}, hands_part, FREE, thirteen, EMPTY)
        self.refused(TooMany, {"limit": 12}, hands_part, FREE, EMPTY, thirteen)
        self.refused(TooMany, {"limit": 12}, hands_part, FREE, Row([("fill", "x", "b")] * 30), thirteen)


class HandsAgree(Checked):
    def agree(self, facts, *rows):
        return self.fresh(hands_agree, facts, [Row(deeds) for deeds in rows])

    def test_ordinary(self):
        self.assertIsNone(self.agree(FACTS, [("put", "red", "a")], [("put", "red", "b")], [("wipe", "c")]))
        self.assertEqual(self.agree(FACTS, [("put", "red", "a")], [("put", "red", "b")], [("wipe", "a")]), (0, 2))
        self.assertEqual(self.agree(FACTS, [("wipe", "c")], [("put", "red", "b")], [("wipe", "a")]), (1, 2))
        self.assertEqual(self.agree(FACTS, [("wipe", "b")], [("put", "x", "c")], [("put", "y", "a")]), (0, 2))
        self.assertEqual(hands_agree(rows=[Row([("put", "x", "a")]), Row([("wipe", "a")])], facts=FREE), (0, 1))

    def test_the_least_of_several(self):
        rows = [[("wipe", "c")], [("put", "x", "a")], [("put", "y", "a")], [("put", "z", "c")]]
        self.assertEqual(self.agree(FACTS, *rows), (0, 3))
        self.assertEqual(self.agree(FACTS, *rows[:3]), (1, 2))
        self.assertEqual(self.agree(FREE, *rows), (0, 1))

    def test_covered_deeds_do_not_matter(self):
        one = [("put", "x", "a"), ("put", "y", "b")]
        self.assertIsNone(self.agree(FACTS, one, [("put", "y", "b")], [("put", "y", "a")]))
        self.assertEqual(self.agree(FREE, one, [("put", "y", "b")], [("put", "y", "a")]), (0, 2))

    def test_no_hands_one_hand_and_thirty(self):
        self.assertIsNone(self.agree(FREE))
        self.assertIsNone(self.agree(FREE, []))
        self.assertIsNone(self.agree(FREE, [("put", "x", "a"), ("wipe", "b"), ("put", "y", "a")]))
        rows = [[("put", "x", "a")]] * 29
        self.assertIsNone(self.agree(FREE, *rows, [("put", "x", "b")]))
        self.assertEqual(self.agree(FREE, *rows, [("put", "y", "b")]), (0, 29))
        self.assertEqual(self.agree(FREE, *[[]] * 28, *rows[:1], [("wipe", "a")]), (28, 29))

    def test_one_row_for_two_hands(self):
        # Both have the same last deed at each patch.
        row = Row([("put", "x", "a"), ("wipe", "b"), ("put", "y", "c")])
        self.assertIsNone(hands_agree(FREE, [row, row]))
        self.assertEqual(hands_agree(FREE, [row, row, row.without(1)]), (0, 2))

    def test_kinds_ahead_of_regions_row_by_row(self):
        fill = Row([("wipe", "z"), ("fill", "x", "a"), ("turn", "x", "y")])
        self.refused(InvalidDeed, {"index": 1}, hands_agree, FACTS, [fill])
        self.refused(InvalidDeed, {"index": 2}, hands_agree, FACTS, [EMPTY, TURN, STRANGE])
        self.refused(UnknownRegion, {"region": "z"}, hands_agree, FACTS, [EMPTY, STRANGE, TURN])
        self.refused(UnknownRegion, {"region": "z"}, hands_agree, FACTS, [STRANGE])
        clash = [Row([("put", "x", "a")]), Row([("put", "y", "a")]), fill]
        self.refused(InvalidDeed, {"index": 1}, hands_agree, FACTS, clash)


class FromAbove(Checked):
    def test_ordinary(self):
        row = Row([("put", "red", "b"), ("put", "blue", "a"), ("put", "red", "b")])
        above = self.fresh(from_above, row)
        self.assertEqual(above.deeds(), [("fill", "red", "b"), ("fill", "blue", "a"), ("fill", "red", "b")])
        above = from_above(row=Row(row.deeds()[:2]))
        self.assertEqual(above.deeds(), [("fill", "blue", "a"), ("fill", "red", "b")])
        for patch in plain.all_patches(ABC):
            self.assertEqual(shown(above, patch, None), shown(Row(row.deeds()[:2]), patch, None))
        self.assertEqual(from_above(EMPTY), EMPTY)

    def test_refused(self):
        for at in range(3):
            for deed in (("fill", "x", "a"), ("wipe", "a"), ("turn", "x", "y")):
                self.refused(InvalidDeed, {"index": at}, from_above, Row([("put", "x", "a")] * at + [deed, deed]))


class Helping(Checked):
    def test_ordinary(self):
        found = [
            ("in", "a", "c"), ("in", "b", "c"), ("apart", "a", "a"), ("apart", "a", "b"), ("apart", "b", "b"),
            ("cover", "c", "c"),
        ]
        self.assertEqual(self.fresh(helping, FACTS, ROW, SWAPPED), found)
        self.assertEqual(helping(other=ROW, one=SWAPPED, facts=FACTS), found)
        self.assertEqual(helping(FREE, SWAPPED, Row(SWAPPED.deeds()[1:])), [
            ("in", "a", "b"), ("apart", "a", "a"), ("cover", "b", "b"),
        ])

    def test_rows_that_are_alike(self):
        self.assertEqual(self.fresh(helping, FACTS, ROW, ROW), [])
        self.assertEqual(helping(FREE, EMPTY, EMPTY), [])

    def test_nothing_helps(self):
        self.assertEqual(helping(FREE, EMPTY, Row([("turn", "x", "y")])), [])
        whole = Facts(["a"], [("cover", "a", "a")])
        self.assertEqual(helping(whole, EMPTY, Row([("wipe", "a")])), [])
        self.assertEqual(helping(Facts(["a"], []), EMPTY, Row([("wipe", "a")])), [("apart", "a", "a")])

    def test_regions_that_are_empty_or_everything(self):
        # A claim that is true of every possible patch is shared by all, without a way to it.
        whole = Facts(ABC, [("cover", "c", "c")])
        self.assertEqual(helping(whole, EMPTY, Row([("wipe", "a")])), [("apart", "a", "a"), ("apart", "a", "c")])
        nothing = Facts(ABC, [("apart", "c", "c")])
        self.assertEqual(helping(nothing, EMPTY, Row([("wipe", "a")])), [("in", "a", "c"), ("apart", "a", "a")])
        both = Facts(ABC, [("apart", "b", "b"), ("cover", "c", "c")])
        self.assertEqual(helping(both, EMPTY, Row([("wipe", "a")])), [
            ("in", "a", "b"), ("apart", "a", "a"), ("apart", "a", "c"),
        ])
        self.assertEqual(helping(both, Row([("put", "x", "c")]), Row([("put", "y", "c")])), [])

    def test_1200_stated_facts(self):
        facts = Facts(ABC, [("in", "a", "b"), ("apart", "b", "c")] * 600)
        self.assertEqual(helping(facts, ROW, SWAPPED), helping(FACTS, ROW, SWAPPED))
        for fact in helping(facts, ROW, SWAPPED):
            self.assertTrue(alike(Facts(ABC, FACTS.stated() + [fact]), ROW, SWAPPED))

    def test_unknown_regions(self):
        self.refused(UnknownRegion, {"region": "z"}, helping, FACTS, STRANGE, Row([("wipe", "q")]))
        self.refused(UnknownRegion, {"region": "q"}, helping, FACTS, EMPTY, Row([("wipe", "q")]))


if __name__ == "__main__":
    unittest.main()
