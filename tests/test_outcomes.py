"""Outcomes: ordinary rows, the edges that the document names, and what is refused."""

import unittest

from coatrows.errors import InvalidClaim, InvalidColour, InvalidPatch, InvalidRegion, UnknownRegion
from coatrows.facts import Facts
from coatrows.outcomes import colours_on, outcome_at, outcomes, possible_outcomes
from coatrows.rows import Row
from tests.checking import NO_LISTS, NO_NAMES, WRONG_CLAIMS, WRONG_PATCHES, Checked, Equal

NAMES = ["r" + chr(97 + at) for at in range(24)]
ABC = ["a", "b", "c"]
FACTS = Facts(ABC, [("in", "a", "b"), ("apart", "b", "c")])
FREE = Facts(ABC, [])
ROW = Row([("put", "red", "b"), ("put", "blue", "a"), ("fill", "green", "c")])


class Outcomes(Checked):
    def test_puts_and_a_fill(self):
        self.assertEqual(self.fresh(outcomes, ROW, ABC), [
            ("coloured", None, None, [("a", False), ("b", False)], ()),
            ("blank", None, None, [("a", False), ("b", False), ("c", False)], None),
            ("blank", None, 2, [("a", False), ("b", False), ("c", True)], "green"),
            ("any", 0, None, [("a", False), ("b", True)], "red"),
            ("any", 1, None, [("a", True)], "blue"),
        ])

    def test_the_order_of_claims_is_that_of_the_regions(self):
        told = outcomes(regions=["c", "d", "b", "a"], row=ROW)
        self.assertEqual(told[0][3], [("b", False), ("a", False)])
        self.assertEqual(told[2][3], [("c", True), ("b", False), ("a", False)])

    def test_no_deeds(self):
        blank = [("coloured", None, None, [], ()), ("blank", None, None, [], None)]
        self.assertEqual(self.fresh(outcomes, Row([]), ["a"]), blank)
        self.assertEqual(outcomes(Row([]), NAMES), blank)

    def test_fills_behind_wipes(self):
        row = Row([("fill", "x", "a"), ("wipe", "b"), ("fill", "y", "b"), ("fill", "z", "a"), ("fill", "w", "c")])
        self.assertEqual(outcomes(row, ABC), [
            ("coloured", None, None, [("b", False)], ()),
            ("blank", None, None, [("a", False), ("b", False), ("c", False)], None),
            ("blank", None, 0, [("a", True), ("b", False)], "x"),
            ("blank", None, 4, [("a", False), ("b", False), ("c", True)], "w"),
            ("any", 1, 2, [("b", True)], "y"),
        ])

    def test_what_contradicts_itself_is_none(self):
        # A put that a later one on the same region covers is never the last deed.
        row = Row([("put", "red", "a"), ("wipe", "a"), ("fill", "x", "a"), ("fill", "y", "a")])
        self.assertEqual(outcomes(row, ["a"]), [
            ("coloured", None, None, [("a", False)], ()),
            ("blank", None, None, [("a", False)], None),
            ("any", 1, 2, [("a", True)], "x"),
        ])

    def test_turns(self):
        row = Row([
            ("turn", "d", "b"), ("put", "b", "a"), ("turn", "b", "c"), ("wipe", "b"), ("fill", "c", "c"),
            ("turn", "c", "a"), ("turn", "e", "e"), ("fill", "c", "a"),
        ])
        changed = (("b", "a"), ("c", "a"), ("d", "a"))
        self.assertEqual(outcomes(row, ABC), [
            ("coloured", None, None, [("a", False), ("b", False)], changed),
            ("blank", None, None, [("a", False), ("b", False), ("c", False)], None),
            ("blank", None, 4, [("a", False), ("b", False), ("c", True)], "a"),
            ("any", 1, None, [("a", True), ("b", False)], "a"),
            ("any", 3, None, [("a", False), ("b", True), ("c", False)], None),
            ("any", 3, 4, [("b", True), ("c", True)], "a"),
            ("any", 3, 7, [("a", True), ("b", True), ("c", False)], "c"),
        ])

    def test_turns_there_and_back(self):
        row = Row([("turn", "x", "y"), ("turn", "y", "x")])
        self.assertEqual(outcomes(row, ["a"])[0], ("coloured", None, None, [], (("y", "x"),)))
        row = Row([("turn", "x", "x")])
        self.assertEqual(outcomes(row, ["a"])[0], ("coloured", None, None, [], ()))
        row = Row([("turn", "x", "z"), ("turn", "y", "x"), ("turn", "z", "y")])
        self.assertEqual(outcomes(row, ["a"])[0][4], (("x", "y"), ("y", "x"), ("z", "y")))

    def test_none_ahead_of_numbers(self):
        row = Row([("wipe", "a"), ("fill", "x", "b"), ("wipe", "c"), ("fill", "y", "a")])
        self.assertEqual([told[:3] for told in outcomes(row, ABC)], [
            ("coloured", None, None), ("blank", None, None), ("blank", None, 1), ("any", 0, 1), ("any", 0, 3),
            ("any", 2, None), ("any", 2, 3),
        ])

    def test_refused(self):
        odd = [(thing, None) for thing in NO_LISTS + [[], NAMES + ["z"]]]
        odd += [([thing], 0) for thing in NO_NAMES + [Equal()]] + [(["b", "a", "b"], 2)]
        for thing, index in odd:
            self.refused(InvalidRegion, {"index": index}, outcomes, ROW, thing)
        self.refused(UnknownRegion, {"region": "b"}, outcomes, ROW, ["a"])
        self.refused(UnknownRegion, {"region": "c"}, outcomes, ROW, ["a", "b"])
        self.refused(UnknownRegion, {"region": "a"}, outcomes, ROW, ["c", "b"])
        self.assertEqual(len(outcomes(Row([("turn", "x", "y")]), ["a"])), 2)


class PossibleOutcomes(Checked):
    def test_ordinary(self):
        told = outcomes(ROW, ABC)
        self.assertEqual(self.fresh(possible_outcomes, FACTS, ROW), told)
        facts = Facts(ABC, [("cover", "a", "c")])
        self.assertEqual(possible_outcomes(facts, ROW), told[:1] + told[2:])
        facts = Facts(ABC, [("cover", "b", "b"), ("in", "b", "a")])
        self.assertEqual(possible_outcomes(facts=facts, row=ROW), told[4:])
        facts = Facts(ABC, [("apart", "a", "a"), ("apart", "c", "c")])
        self.assertEqual(possible_outcomes(facts, ROW), [told[0], told[1], told[3]])

    def test_unknown_regions(self):
        self.refused(UnknownRegion, {"region": "c"}, possible_outcomes, Facts(["b", "a"], []), ROW)


class OutcomeAt(Checked):
    def test_ordinary(self):
        self.assertEqual(outcome_at(FACTS, ROW, [], "red"), 0)
        self.assertEqual(outcome_at(FACTS, ROW, [], None), 1)
        self.assertEqual(outcome_at(FACTS, ROW, ["c"], None), 2)
        self.assertEqual(outcome_at(FACTS, ROW, ["c"], "any"), 0)
        self.assertEqual(self.fresh(outcome_at, FACTS, ROW, ["b"], None), 3)
        self.assertEqual(outcome_at(first="x", patch=["a", "b"], row=ROW, facts=FACTS), 4)

    def test_patches_that_are_not_possible(self):
        self.assertEqual(outcome_at(FACTS, ROW, ["a"], None), 4)
        self.assertEqual(outcome_at(FACTS, ROW, ABC, None), 4)
        self.assertEqual(outcome_at(FACTS, ROW, ["b", "c"], None), 3)

    def test_the_order_of_checks(self):
        for thing, index in WRONG_PATCHES:
            self.refused(InvalidPatch, {"index": index}, outcome_at, FACTS, ROW, thing, "A")
        for thing in NO_NAMES[1:] + [Equal()]:
            self.refused(InvalidColour, {"colour": thing}, outcome_at, FACTS, ROW, ["a"], thing)
        self.refused(UnknownRegion, {"region": "b"}, outcome_at, Facts(["a"], []), ROW, None, "A")


class ColoursOn(Checked):
    def test_ordinary(self):
        self.assertEqual(self.fresh(colours_on, FACTS, ROW, [], None), [None, "blue", "green", "red"])
        self.assertEqual(colours_on(FACTS, ROW, [], "white"), ["blue", "red", "white"])
        self.assertEqual(colours_on(FACTS, ROW, [("b", False)], "white"), ["white"])
        self.assertEqual(colours_on(FACTS, ROW, [("b", False)], None), [None, "green"])
        self.assertEqual(colours_on(first=None, claims=[("c", True)], row=ROW, facts=FACTS), ["green"])
        self.assertEqual(colours_on(FACTS, ROW, [("b", True), ("a", False), ("b", True)], None), ["red"])

    def test_no_patch(self):
        self.assertEqual(self.fresh(colours_on, FACTS, ROW, [("a", True), ("c", True)], None), [])
        self.assertEqual(colours_on(FACTS, ROW, [("a", True), ("a", False)], "x"), [])

    def test_no_deeds(self):
        self.assertEqual(colours_on(FACTS, Row([]), [], None), [None])
        self.assertEqual(colours_on(FACTS, Row([]), [], "x"), ["x"])

    def test_turned_first_colours(self):
        row = Row([("wipe", "a"), ("turn", "x", "y"), ("turn", "y", "z")])
        self.assertEqual(colours_on(FREE, row, [], "x"), [None, "z"])
        self.assertEqual(colours_on(FREE, row, [], "z"), [None, "z"])
        self.assertEqual(colours_on(FREE, row, [("a", True)], "x"), [None])
        self.assertEqual(colours_on(FREE, row, [], None), [None])

    def test_forced_regions(self):
        facts = Facts(ABC, [("apart", "a", "a"), ("cover", "b", "b")])
        self.assertEqual(colours_on(facts, ROW, [], None), ["red"])
        self.assertEqual(colours_on(facts, ROW, [("a", True)], None), [])

    def test_the_order_of_checks(self):
        for thing, index in WRONG_CLAIMS:
            self.refused(InvalidClaim, {"index": index}, colours_on, FACTS, ROW, thing, "A")
        for thing in NO_NAMES[1:] + [Equal()]:
            self.refused(InvalidColour, {"colour": thing}, colours_on, FACTS, ROW, [("a", True), ("a", False)], thing)
        self.refused(UnknownRegion, {"region": "b"}, colours_on, Facts(["a"], []), ROW, None, "A")


if __name__ == "__main__":
    unittest.main()
