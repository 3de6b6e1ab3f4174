"""Rows compared: whether they are alike, the papers that show it, and hidden deeds."""

import unittest

from coatrows.comparing import alike, bare, compare_holds, compared, hidden
from coatrows.errors import UnknownRegion
from coatrows.facts import Facts
from coatrows.outcomes import outcomes
from coatrows.rows import Row, shown
from tests.checking import NO_LISTS, NO_NAMES, WRONG_PATCHES, Checked, Equal

ABC = ["a", "b", "c"]
FACTS = Facts(ABC, [("in", "a", "b"), ("apart", "b", "c")])
FREE = Facts(ABC, [])
ROW = Row([("put", "red", "b"), ("put", "blue", "a"), ("fill", "green", "c")])
SWAPPED = Row([("put", "blue", "a"), ("put", "red", "b"), ("fill", "green", "c")])
ONE_RED = Row([("put", "red", "b"), ("fill", "green", "c")])
EMPTY = Row([])
ALL = [[], ["c"], ["b"], ["b", "c"], ["a"], ["a", "c"], ["a", "b"], ABC]


class Alike(Checked):
    def both(self, facts, one, other):
        """Return whether two rows are alike, and check what is told of them the other way round."""
        given = self.fresh(alike, facts, one, other)
        self.assertIs(type(given), bool)
        self.assertIs(alike(facts, other, one), given)
        for left, right in ((one, other), (other, one)):
            told = self.fresh(compared, facts, left, right)
            self.assertEqual(told[0], "alike" if given else "parted")
            self.assertIs(self.fresh(compare_holds, facts, left, right, told), True)
        return given

    def test_ordinary(self):
        self.assertIs(self.both(FACTS, ROW, SWAPPED), False)
        self.assertIs(self.both(FACTS, SWAPPED, ONE_RED), True)
        self.assertIs(self.both(FREE, SWAPPED, ONE_RED), False)
        self.assertIs(alike(other=ROW, one=ROW, facts=FACTS), True)

    def test_no_deeds(self):
        self.assertIs(self.both(FACTS, EMPTY, EMPTY), True)
        self.assertIs(self.both(FACTS, EMPTY, Row([("turn", "x", "x")])), True)
        self.assertIs(self.both(FACTS, EMPTY, Row([("turn", "x", "y")])), False)
        self.assertIs(self.both(FACTS, EMPTY, Row([("wipe", "a")])), False)
        self.assertIs(self.both(FACTS, EMPTY, Row([("fill", "x", "a")])), False)

    def test_regions_that_are_empty_or_everything(self):
        empty = Facts(ABC, [("apart", "a", "a")])
        self.assertIs(self.both(empty, EMPTY, Row([("put", "red", "a"), ("wipe", "a"), ("fill", "x", "a")])), True)
        whole = Facts(ABC, [("cover", "a", "a")])
        self.assertIs(self.both(whole, Row([("put", "x", "a")]), Row([("put", "y", "b"), ("put", "x", "a")])), True)
        self.assertIs(self.both(whole, Row([("turn", "x", "y"), ("put", "x", "a")]), Row([("put", "x", "a")])), True)
        self.assertIs(self.both(whole, Row([("fill", "x", "b"), ("put", "y", "a")]), Row([("put", "y", "a")])), True)
        self.assertIs(self.both(FREE, Row([("fill", "x", "b"), ("put", "y", "a")]), Row([("put", "y", "a")])), False)

    def test_turns_there_and_back(self):
        there = Row([("turn", "x", "y"), ("turn", "y", "x")])
        self.assertIs(self.both(FREE, there, EMPTY), False)
        self.assertIs(self.both(FREE, there, Row([("turn", "y", "x")])), True)
        self.assertIs(self.both(FREE, there + there, there), True)
        puts = Row([("put", "x", "a"), ("turn", "x", "y")])
        self.assertIs(self.both(FREE, puts, Row([("turn", "x", "y"), ("put", "y", "a")])), True)
        self.assertIs(self.both(FREE, puts, Row([("put", "y", "a"), ("turn", "x", "y")])), True)

    def test_a_cover_makes_rows_alike(self):
        facts = Facts(ABC, [("cover", "a", "b")])
        one = Row([("put", "x", "c"), ("wipe", "a"), ("wipe", "b")])
        self.assertIs(self.both(facts, one, Row([("wipe", "b"), ("wipe", "a")])), True)
        self.assertIs(self.both(FREE, one, Row([("wipe", "b"), ("wipe", "a")])), False)

    def test_fills(self):
        one = Row([("wipe", "a"), ("fill", "x", "a"), ("fill", "y", "b")])
        other = Row([("put", "x", "a"), ("fill", "y", "b")])
        self.assertIs(self.both(FREE, one, other), True)
        self.assertIs(self.both(FREE, one, Row([("fill", "y", "b"), ("put", "x", "a")])), True)
        self.assertIs(self.both(FREE, Row([("fill", "y", "b"), ("fill", "x", "a")]), Row([("fill", "x", "a")])), False)

    def test_more_deeds_ahead_and_behind(self):
        ahead, behind = Row([("fill", "x", "c"), ("turn", "x", "red")]), Row([("wipe", "b"), ("turn", "red", "y")])
        self.assertIs(self.both(FACTS, ahead + SWAPPED + behind, ahead + ONE_RED + behind), True)

    def test_unknown_regions(self):
        strange = Row([("turn", "x", "y"), ("put", "red", "a"), ("put", "blue", "z"), ("wipe", "y")])
        stranger = Row([("wipe", "q")])
        for call in (alike, compared):
            self.refused(UnknownRegion, {"region": "z"}, call, FACTS, strange, stranger)
            self.refused(UnknownRegion, {"region": "q"}, call, FACTS, stranger, strange)
            self.refused(UnknownRegion, {"region": "q"}, call, FACTS, ROW, stranger)
        for told in (None, ("parted", [], None)):
            self.refused(UnknownRegion, {"region": "z"}, compare_holds, FACTS, strange, stranger, told)
            self.refused(UnknownRegion, {"region": "q"}, compare_holds, FACTS, ROW, stranger, told)


class Compared(Checked):
    def test_the_least_patch_and_the_first_colour(self):
        self.assertEqual(compared(FACTS, ROW, SWAPPED), ("parted", ["a", "b"], None))
        self.assertEqual(compared(facts=FREE, one=SWAPPED, other=ONE_RED), ("parted", ["a"], None))
        self.assertEqual(compared(FREE, EMPTY, Row([("wipe", "b")])), ("parted", ["b"], "a"))
        self.assertEqual(compared(FREE, EMPTY, Row([("fill", "b", "b")])), ("parted", ["b"], None))
        self.assertEqual(compared(FREE, Row([("turn", "b", "c")]), Row([("turn", "c", "b")])), ("parted", [], "b"))
        self.assertEqual(compared(FREE, Row([("turn", "b", "b")]), Row([("turn", "c", "b")])), ("parted", [], "c"))
        cover = Facts(ABC, [("cover", "c", "b"), ("apart", "c", "c")])
        self.assertEqual(compared(cover, EMPTY, Row([("wipe", "b")])), ("parted", ["b"], "a"))
        cover = Facts(ABC, [("cover", "c", "a")])
        self.assertEqual(compared(cover, EMPTY, Row([("wipe", "b")])), ("parted", ["b", "c"], "a"))

    def test_a_colour_of_the_deeds_ahead_of_a_new_one(self):
        one = Row([("wipe", "a"), ("fill", "m", "a")])
        self.assertEqual(compared(FREE, one, Row([("fill", "m", "a")])), ("parted", ["a"], "a"))
        one = Row([("put", "a", "a")])
        self.assertEqual(compared(FREE, one, Row([("fill", "a", "a")])), ("parted", ["a"], "b"))

    def test_rows_that_name_a_to_z(self):
        letters = "abcdefghijklmnopqrstuvwxyz"
        fills = [("fill", letter, "a") for letter in letters]
        one = Row([("turn", letter, "a") for letter in letters] + [("wipe", "b")])
        other = Row([("turn", letter, "a") for letter in letters] + [("wipe", "b"), ("wipe", "b")])
        self.assertTrue(alike(FREE, one, other))
        told = compared(FREE, Row(fills + [("put", "a", "c")]), Row(fills + [("fill", "a", "c")]))
        self.assertEqual(told, ("parted", ["c"], "b"))
        one = Row([("turn", letter, "a") for letter in letters] + [("put", "a", "c")])
        self.assertEqual(compared(FREE, one, Row(one.deeds()[:26])), ("parted", ["c"], None))
        one = Row([("turn", letter, "a") for letter in letters] + [("fill", "a", "c"), ("put", "a", "c")])
        other = Row(one.deeds()[:27])
        self.assertEqual(compared(FREE, one, other), ("parted", ["c"], "aa"))
        self.assertTrue(compare_holds(FREE, one, other, ("parted", ["a", "c"], "zz")))

    def test_papers(self):
        told = compared(FACTS, SWAPPED, ONE_RED)
        self.assertEqual(len(told), 3)
        self.assertEqual([len(paper) for paper in told[1:]], [len(outcomes(row, ABC)) for row in (SWAPPED, ONE_RED)])
        for paper in told[1:]:
            self.assertIs(type(paper), list)
            for listed in paper:
                self.assertIs(type(listed), list)
                self.assertLessEqual(len(listed), 1000)


class CompareHolds(Checked):
    def holds(self, told, facts=FACTS, one=SWAPPED, other=ONE_RED):
        return self.fresh(compare_holds, facts, one, other, told)

    def test_no_such_tuple(self):
        odd = NO_LISTS + NO_NAMES + [[], ["parted", ["a", "b"], None], ("parted",), ("parted", ["a", "b"])] + [
            ("parted", ["a", "b"], None, None), (None, ["a", "b"], None), ("Parted", ["a", "b"], None),
            (["parted"], ["a", "b"], None), (Equal(), ["a", "b"], None), ("alike", ["a", "b"], None), Equal(),
            ("", ["a", "b"], None), (True, ["a", "b"], None), ({}, ["a", "b"], None),
        ]
        self.assertIs(self.holds(("parted", ["a", "b"], None), one=ROW, other=SWAPPED), True)
        for thing in odd:
            self.assertIs(self.holds(thing, one=ROW, other=SWAPPED), False)
            self.assertIs(self.holds(thing), False)
        told = compared(FACTS, SWAPPED, ONE_RED)
        self.assertIs(self.holds(told), True)
        self.assertIs(compare_holds(told=told, other=ONE_RED, one=SWAPPED, facts=FACTS), True)
        for thing in (list(told), told + ([],), told[:2], ("parted",) + told[1:], (None,) + told[1:], told[1:]):
            self.assertIs(self.holds(thing), False)
        for thing in NO_LISTS + [["alike"], Equal()]:
            self.assertIs(self.holds((thing,) + told[1:]), False)

    def test_patches_and_first_colours(self):
        for patch in ALL:
            for first in (None, "red", "blue", "green", "a", "b", "zzzzzzzzzzzz"):
                parted = shown(ROW, patch, first) != shown(SWAPPED, patch, first)
                possible = patch in ([], ["c"], ["b"], ["a", "b"])
                self.assertIs(self.holds(("parted", patch, first), FACTS, ROW, SWAPPED), parted and possible)
                self.assertIs(self.holds(("parted", patch, first), FREE, ROW, SWAPPED), parted)
        for thing, _ in WRONG_PATCHES:
            self.assertIs(self.holds(("parted", thing, None), FREE, ROW, SWAPPED), False)
        for thing in NO_NAMES[1:] + [Equal()]:
            self.assertIs(self.holds(("parted", ["a", "b"], thing), FREE, ROW, SWAPPED), False)

    def test_only_first_colours_at_which_they_leave_unlike_things(self):
        one, other = Row([("put", "red", "a")]), Row([("fill", "red", "a")])
        told = [first for first in (None, "red", "blue", "a") if self.holds(("parted", ["a"], first), FREE, one, other)]
        self.assertEqual(told, ["blue", "a"])

    def spoilt(self, told, at, thing):
        """Return a paper in which one of both lists is another thing."""
        return told[:at] + (thing,) + told[at + 1:]

    def test_papers_that_are_none(self):
        told = compared(FACTS, SWAPPED, ONE_RED)
        for at in (1, 2):
            for thing in NO_LISTS + [tuple(told[at]), told[at][:-1], told[at][1:], told[at] + [[]], [], Equal()]:
                self.assertIs(self.holds(self.spoilt(told, at, thing)), False)
            for k in range(len(told[at])):
                for thing in NO_LISTS + [tuple(told[at][k]), Equal()]:
                    self.assertIs(self.holds(self.spoilt(told, at, told[at][:k] + [thing] + told[at][k + 1:])), False)

    def test_claims_that_are_none_or_strangers(self):
        told = compared(FACTS, SWAPPED, ONE_RED)
        odd = NO_NAMES + [
            ("a", 1), ("a", 0), ("a", None), ("a", "True"), ("a", 1.0), ("a", Equal()), ("d", True), (Equal(), True),
            ("a",), ("a", True, True), ["a", True], (["a"], True), (True, "a"), ({}, False), "at", Equal(),
        ]
        for at in (1, 2):
            for k, listed in enumerate(told[at]):
                for thing in odd:
                    for spoilt in (listed + [thing], [thing] + listed):
                        paper = told[at][:k] + [spoilt] + told[at][k + 1:]
                        self.assertIs(self.holds(self.spoilt(told, at, paper)), False)

    def test_claims_that_nothing_leads_to(self):
        told = compared(FREE, ROW, ROW)
        for at in (1, 2):
            for k, outcome in enumerate(outcomes(ROW, ABC)):
                for region in ABC:
                    for lies in (False, True):
                        paper = [list(listed) for listed in told[at]]
                        paper[k].append((region, lies))
                        right = (region, lies) in outcome[3]
                        self.assertIs(self.holds(self.spoilt(told, at, paper), FREE, ROW, ROW), right)

    def test_each_claim_stands_behind_one_that_leads_to_it(self):
        facts = Facts(["a", "b", "c", "d"], [("in", "a", "b"), ("in", "b", "c"), ("in", "c", "d")])
        one, other = Row([("put", "x", "a"), ("put", "y", "d")]), Row([("put", "y", "d")])
        outs = [outcomes(row, facts.regions()) for row in (one, other)]
        self.assertEqual([outcome[3] for outcome in outs[0]], [
            [("a", False), ("d", False)], [("a", False), ("d", False)], [("a", True), ("d", False)], [("d", True)],
        ])
        others = [outcome[3] for outcome in outs[1]]
        paper = [[("d", False)], [("d", False)], [("b", True), ("c", True), ("d", True), ("d", False)], [("d", True)]]
        self.assertIs(self.holds(("alike", paper, others), facts, one, other), True)
        # The claims of an outcome lead to others whether the list repeats them or not.
        paper[2] = [("a", True), ("a", True), ("b", True), ("c", True), ("d", False), ("d", True), ("b", True)]
        self.assertIs(self.holds(("alike", paper, others), facts, one, other), True)
        paper[2] = [("c", False), ("d", False), ("b", False), ("a", False), ("a", True)]
        self.assertIs(self.holds(("alike", paper, others), facts, one, other), True)
        paper[2] = [("c", True), ("b", True), ("d", True), ("d", False)]
        self.assertIs(self.holds(("alike", paper, others), facts, one, other), False)
        paper[2] = [("b", True), ("d", True), ("d", False)]
        self.assertIs(self.holds(("alike", paper, others), facts, one, other), False)
        paper[2] = [("b", True), ("c", True), ("d", False)]
        self.assertIs(self.holds(("alike", paper, others), facts, one, other), False)
        paper[2] = []
        self.assertIs(self.holds(("alike", paper, others), facts, one, other), False)

    def test_a_stated_fact_not_one_that_follows(self):
        facts = Facts(ABC, [("in", "a", "b"), ("in", "b", "c")])
        one, other = Row([("put", "x", "a"), ("put", "y", "c")]), Row([("put", "y", "c")])
        others = [outcome[3] for outcome in outcomes(other, ABC)]
        paper = [[("c", False)], [("c", False)], [("c", True), ("c", False)], [("c", True)]]
        self.assertIs(self.holds(("alike", paper, others), facts, one, other), False)
        stated = Facts(ABC, [("in", "a", "b"), ("in", "b", "c"), ("in", "a", "c")])
        self.assertIs(self.holds(("alike", paper, others), stated, one, other), True)

    def test_empty_lists_where_no_ends_differ(self):
        one, other = Row([("wipe", "a"), ("fill", "x", "a")]), Row([("put", "x", "a")])
        lists = [[outcome[3] for outcome in outcomes(row, ABC)] for row in (one, other)]
        self.assertIs(self.holds(("alike", lists[0], lists[1]), FREE, one, other), True)
        self.assertIs(self.holds(("alike", [[], [], []], [[], [], []]), FREE, one, other), False)
        same = Row([("turn", "x", "x")])
        self.assertIs(self.holds(("alike", [[], []], [[], []]), FREE, same, EMPTY), True)
        self.assertIs(self.holds(("alike", [[], []], [[]]), FREE, same, EMPTY), False)
        for thing in [*NO_LISTS, Equal(), [None], [True], [("a", 1)], [("d", True)], [Equal()], [[]], [("a", True)]]:
            for paper in ([thing, []], [[], thing]):
                self.assertIs(self.holds(("alike", paper, [[], []]), FREE, same, EMPTY), False)
                self.assertIs(self.holds(("alike", [[], []], paper), FREE, same, EMPTY), False)

    def test_no_paper_for_rows_that_are_not_alike(self):
        lists = [[outcome[3] for outcome in outcomes(row, ABC)] for row in (ROW, SWAPPED)]
        self.assertIs(self.holds(("alike", lists[0], lists[1]), FACTS, ROW, SWAPPED), False)


class Hidden(Checked):
    def test_ordinary(self):
        self.assertEqual(self.fresh(hidden, FACTS, SWAPPED), [0])
        self.assertEqual(hidden(row=ROW, facts=FACTS), [])
        self.assertEqual(hidden(FREE, SWAPPED), [])
        self.assertEqual(hidden(FREE, EMPTY), [])
        self.assertEqual(bare(FREE, EMPTY).deeds(), [])
        self.assertEqual(self.fresh(bare, FACTS, SWAPPED).deeds(), ONE_RED.deeds())
        self.assertEqual(bare(row=ROW, facts=FACTS), ROW)

    def test_of_two_only_one_can_be_left_out(self):
        twice = Row([("put", "x", "a"), ("put", "x", "a")])
        self.assertEqual(hidden(FREE, twice), [0, 1])
        self.assertEqual(bare(FREE, twice).deeds(), [("put", "x", "a")])
        both = Row([("fill", "x", "a"), ("fill", "y", "b"), ("fill", "x", "a")])
        self.assertEqual(hidden(FREE, both), [2])

    def test_the_first_hidden_deed_each_time(self):
        same = Facts(ABC, [("in", "a", "b"), ("in", "b", "a")])
        row = Row([("put", "x", "a"), ("put", "x", "b"), ("put", "x", "a")])
        self.assertEqual(hidden(same, row), [0, 1, 2])
        self.assertEqual(bare(same, row).deeds(), [("put", "x", "a")])
        row = Row([("put", "x", "b"), ("put", "x", "a"), ("put", "x", "b")])
        self.assertEqual(bare(same, row).deeds(), [("put", "x", "b")])

    def test_a_deed_that_is_hidden_only_later(self):
        # The first turn is not hidden, but is so without the second one.
        row = Row([("turn", "x", "y"), ("turn", "x", "z"), ("turn", "x", "y")])
        self.assertEqual(hidden(FREE, row), [1, 2])
        self.assertEqual(bare(FREE, row).deeds(), [("turn", "x", "y")])
        row = Row([("turn", "x", "y"), ("wipe", "a"), ("turn", "x", "z"), ("turn", "x", "y"), ("wipe", "b")])
        self.assertEqual(hidden(FREE, row), [2, 3])
        self.assertEqual(bare(FREE, row).deeds(), [("wipe", "a"), ("turn", "x", "y"), ("wipe", "b")])

    def test_thirty_deeds(self):
        row = Row([("wipe", "a"), ("wipe", "b"), ("wipe", "c")] * 10)
        self.assertEqual(hidden(FREE, row), list(range(30)))
        self.assertEqual(bare(FREE, row).deeds(), [("wipe", "a"), ("wipe", "b"), ("wipe", "c")])
        self.assertEqual(bare(FACTS, row).deeds(), [("wipe", "b"), ("wipe", "c")])
        turns = Row([("turn", "x", "x")] * 30)
        self.assertEqual(hidden(FREE, turns), list(range(30)))
        self.assertEqual(bare(FREE, turns).deeds(), [])

    def test_unknown_regions(self):
        strange = Row([("put", "red", "a"), ("fill", "blue", "z"), ("wipe", "y")])
        self.refused(UnknownRegion, {"region": "z"}, hidden, FACTS, strange)
        self.refused(UnknownRegion, {"region": "z"}, bare, FACTS, strange)


if __name__ == "__main__":
    unittest.main()
