"""The deciding map, rows that need its patches, and rows that are alike on some patches."""

import unittest

from coatrows.comparing import alike
from coatrows.deciding import alike_on, deciding, needing
from coatrows.errors import InvalidFact, InvalidMap, InvalidPatch
from coatrows.facts import Facts
from coatrows.rows import Row, first_colours, shown
from tests.chance import REGIONS
from tests.checking import NO_LISTS, NO_NAMES, WRONG_PATCHES, Checked, Equal

ABC = ["a", "b", "c"]
FACTS = Facts(ABC, [("in", "a", "b"), ("apart", "b", "c")])
FREE = Facts(ABC, [])
EMPTY = Row([])
ROW = Row([("put", "red", "b"), ("put", "blue", "a"), ("fill", "green", "c")])
SWAPPED = Row([("put", "blue", "a"), ("put", "red", "b"), ("fill", "green", "c")])
COVERS = [("in", "a", "b"), ("cover", "a", "a"), ("cover", "b", "c"), ("cover", "c", "a")]


class Deciding(Checked):
    def test_ordinary(self):
        self.assertEqual(self.fresh(deciding, FACTS), [[], ["c"], ["b"], ["a", "b"]])
        self.assertEqual(deciding(facts=FREE), [
            [], ["c"], ["b"], ["b", "c"], ["a"], ["a", "c"], ["a", "b"],
        ])

    def test_the_order_of_the_regions(self):
        self.assertEqual(deciding(Facts(["c", "b", "a"], [("in", "a", "b"), ("apart", "b", "c")])), [
            [], ["b"], ["b", "a"], ["c"],
        ])

    def test_three_regions_are_implied_by_two(self):
        facts = Facts(["a", "b", "c", "d"], [("in", "a", "c"), ("in", "b", "d")])
        self.assertIn(["a", "b", "c", "d"], deciding(facts))
        self.assertNotIn(["a", "b", "c"], deciding(facts))

    def test_one_region(self):
        self.assertEqual(self.fresh(deciding, Facts(["a"], [])), [[], ["a"]])
        self.assertEqual(self.fresh(deciding, Facts(["a"], [("apart", "a", "a")])), [[]])
        self.assertEqual(self.fresh(deciding, Facts(["a"], [("cover", "a", "a")])), [["a"]])

    def test_regions_that_are_empty_or_everything(self):
        facts = Facts(ABC, [("cover", "b", "b"), ("apart", "c", "c")])
        self.assertEqual(self.fresh(deciding, facts), [["b"], ["a", "b"]])
        # What all possible patches lie in is implied by no region, also if no way leads there.
        facts = Facts(["a", "b", "c", "d"], [("cover", "d", "d"), ("in", "d", "a")])
        self.assertEqual(deciding(facts), [["a", "d"], ["a", "c", "d"], ["a", "b", "d"], ["a", "b", "c", "d"]])

    def test_24_regions(self):
        told = deciding(Facts(REGIONS, []))
        self.assertEqual(len(told), 1 + 24 + 23 * 12)
        self.assertEqual((told[0], told[1], told[2], told[3]), ([], ["rx"], ["rw"], ["rw", "rx"]))
        self.assertEqual((told[-1], told[-24]), (["ra", "rb"], ["ra"]))
        chain = Facts(REGIONS, [("in", one, other) for one, other in zip(REGIONS, REGIONS[1:])] * 52)
        self.assertEqual(deciding(chain), [REGIONS[at:] for at in range(24, -1, -1)])

    def test_covers_are_refused(self):
        for call in (deciding, lambda facts: needing(facts, None), lambda facts: needing(facts, [])):
            self.refused(InvalidFact, {"index": 2}, call, Facts(ABC, COVERS))
            self.refused(InvalidFact, {"index": 0}, call, Facts(ABC, COVERS[::-1]))
            self.refused(InvalidFact, {"index": 1199}, call, Facts(ABC, COVERS[:2] * 599 + COVERS[:1] + COVERS[2:3]))
        # It is refused as it is stated, also if it follows anyhow; what follows unstated is not.
        self.refused(InvalidFact, {"index": 1}, deciding, Facts(ABC, [("cover", "a", "a"), ("cover", "a", "b")]))
        self.assertIn(("cover", "a", "b"), Facts(ABC, COVERS[:2]))
        self.assertEqual(deciding(Facts(ABC, COVERS[:2])), [["a", "b"], ["a", "b", "c"]])


class Needing(Checked):
    def check(self, facts):
        """Check the two rows for each possible patch."""
        told = deciding(facts)
        patches = list(facts.patches([]))
        for patch in patches:
            rows = self.untouched(needing, facts, patch)
            self.assertEqual(rows is not None, patch in told)
            if rows is not None:
                self.assertIs(type(rows), tuple)
                one, other = rows
                for row in rows:
                    self.assertLessEqual({deed[0] for deed in row.deeds()}, {"put", "wipe", "turn"})
                    self.assertLessEqual(set(row.regions()), set(facts.regions()))
                firsts = first_colours(one, other)
                self.assertTrue([first for first in firsts if shown(one, patch, first) != shown(other, patch, first)])
                self.assertTrue(alike_on([there for there in patches if there != patch], one, other))
                self.assertFalse(alike(facts, one, other))
                self.assertEqual(needing(facts, list(patch)), rows)

    def test_ordinary(self):
        self.check(FACTS)
        self.check(FREE)
        self.check(Facts(ABC, [("cover", "b", "b"), ("apart", "c", "c")]))
        self.check(Facts(["d", "c", "b", "a"], [("in", "a", "d"), ("in", "c", "a")]))
        one, other = needing(patch=["b"], facts=FACTS)
        self.assertTrue(alike_on([[], ["c"], ["a", "b"]], one, other))
        self.assertFalse(alike_on([["b"]], one, other))

    def test_one_region(self):
        for stated in ([], [("apart", "a", "a")], [("cover", "a", "a")]):
            self.check(Facts(["a"], stated))

    def test_other_patches(self):
        self.assertIsNone(needing(FREE, ABC))
        self.assertIsNone(needing(FACTS, ["a"]))
        self.assertIsNone(needing(FACTS, ["b", "c"]))
        self.assertIsNone(needing(Facts(["a"], [("cover", "a", "a")]), []))

    def test_24_regions(self):
        for facts in (Facts(REGIONS, []), Facts(REGIONS, [("in", region, "rx") for region in REGIONS])):
            for patch in ([], ["rx"], ["ra", "rx"], ["rm", "rx"]):
                one, other = needing(facts, patch)
                self.assertFalse(alike_on([patch], one, other))
                self.assertTrue(alike_on([there for there in deciding(facts) if there != patch], one, other))
        self.assertIsNone(needing(Facts(REGIONS, []), REGIONS))

    def test_no_patches(self):
        for patch, index in WRONG_PATCHES:
            self.refused(InvalidPatch, {"index": index}, needing, FACTS, patch)


class AlikeOn(Checked):
    def test_ordinary(self):
        self.assertFalse(self.fresh(alike_on, deciding(FACTS), ROW, SWAPPED))
        self.assertTrue(self.fresh(alike_on, [["b"], [], ["c"]], ROW, SWAPPED))
        self.assertFalse(alike_on(other=SWAPPED, patches=[["b"], ["a", "b"]], one=ROW))
        self.assertTrue(alike_on([ABC], Row([("wipe", "a")]), Row([("wipe", "b")])))
        self.assertFalse(alike_on([ABC, ["c", "a"]], Row([("wipe", "a")]), Row([("wipe", "b")])))

    def test_no_patches_and_no_names(self):
        self.assertTrue(alike_on([], ROW, EMPTY))
        self.assertTrue(alike_on([[]], ROW, EMPTY))
        self.assertTrue(alike_on([[], []], ROW, SWAPPED))
        self.assertFalse(alike_on([[]], EMPTY, Row([("turn", "x", "y")])))

    def test_names_that_are_no_regions_of_the_rows(self):
        self.assertTrue(alike_on([["z", "red", "blue"], ["abc"]], ROW, EMPTY))
        self.assertFalse(alike_on([["z", "b", "y"]], ROW, EMPTY))
        # The order of the names does not matter.
        self.assertFalse(alike_on([["b", "a"]], ROW, SWAPPED))
        self.assertTrue(alike_on([["c", "z", "b"]], ROW, SWAPPED))

    def test_first_colours(self):
        # Blank alone tells these apart, then a coloured point alone, then a colour of neither row.
        self.assertFalse(alike_on([["a"]], Row([("fill", "x", "a")]), EMPTY))
        self.assertFalse(alike_on([[]], Row([("turn", "x", "y"), ("turn", "y", "z")]), Row([("turn", "x", "z")])))
        both = Row([("turn", "x", "y"), ("fill", "y", "a")])
        self.assertFalse(alike_on([["a"]], both, Row([("put", "y", "a")])))
        self.assertTrue(alike_on([["a"]], Row([("wipe", "a"), ("fill", "y", "a")]), Row([("put", "y", "a")])))
        self.assertTrue(alike_on([[], ["a"]], Row([("turn", "x", "y"), ("turn", "y", "x")]), Row([("turn", "y", "x")])))
        self.assertTrue(alike_on([[], ["a"]], Row([("turn", "x", "x")]), EMPTY))
        self.assertFalse(alike_on([["a"]], Row([("wipe", "a")]), EMPTY))
        turns = Row([("turn", "x", "y"), ("put", "y", "a")])
        self.assertTrue(alike_on([["a"]], turns, Row([("put", "x", "a"), ("turn", "x", "y")])))
        self.assertTrue(alike_on([["a"], ["a", "b"], []], turns, Row([("put", "x", "a"), ("turn", "x", "y")])))

    def test_more_patches_and_more_names(self):
        letters = "abcdefghijklmnopqrstuvwxyz"
        names = [one + other + third for one in letters for other in letters for third in letters][:5000]
        patches = [names[at:at + 3] for at in range(4990)] + [names, names[::-1]]
        one = Row([("put", "x", "aaa"), ("put", "y", names[4999])])
        self.assertFalse(alike_on(patches, one, Row(one.deeds()[::-1])))
        self.assertTrue(alike_on(patches[:-2], one, Row(one.deeds()[::-1])))
        self.assertTrue(alike_on(patches, one, one))

    def test_no_map(self):
        for thing in NO_LISTS:
            self.refused(InvalidMap, {"index": None}, alike_on, thing, ROW, SWAPPED)
            self.refused(InvalidMap, {"index": 0}, alike_on, [thing], ROW, SWAPPED)
            self.refused(InvalidMap, {"index": 2}, alike_on, [["a", "b"], [], thing, thing], ROW, ROW)
        for thing in NO_NAMES + [Equal()]:
            self.refused(InvalidMap, {"index": 0}, alike_on, [[thing]], ROW, SWAPPED)
            self.refused(InvalidMap, {"index": 1}, alike_on, [["a", "b"], ["a", thing], None], ROW, ROW)
        self.refused(InvalidMap, {"index": 1}, alike_on, [["a", "b"], ["a", "b", "a"]], ROW, SWAPPED)
        self.refused(InvalidMap, {"index": 0}, alike_on, [["zz", "zz"]], EMPTY, EMPTY)


if __name__ == "__main__":
    unittest.main()
