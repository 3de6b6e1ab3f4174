"""Facts and rows as text."""

import unittest

from coatrows.errors import Contradiction, InvalidFact, InvalidRegion, InvalidText, TooMany
from coatrows.facts import Facts
from coatrows.rows import Row
from coatrows.text import fact_text, read_facts, read_row, row_text
from tests import plain_paints
from tests.chance import REGIONS
from tests.checking import NO_LISTS, NO_NAMES, Checked, Equal

ABC = ["a", "b", "c"]
AWKWARD = ["on", "under", "to", "wipe", "in", "apart", "cover"]
LONG = "abcdefghijkl"


class FactText(Checked):
    def test_ordinary(self):
        self.assertEqual(self.untouched(fact_text, ("in", "a", "b")), "a in b")
        self.assertEqual(fact_text(fact=("apart", "b", "a")), "b apart a")
        self.assertEqual(fact_text(("cover", LONG, LONG)), f"{LONG} cover {LONG}")
        for kind in ("in", "apart", "cover"):
            for name in AWKWARD:
                self.assertEqual(fact_text((kind, name, "in")), f"{name} {kind} in")

    def test_no_fact(self):
        for thing in NO_NAMES + [
            ("in", "a"), ("in",), ("in", "a", "b", "c"), ["in", "a", "b"], "inn", "a in b", ("over", "a", "b"),
            ("a", "in", "b"), ("IN", "a", "b"), ("", "a", "b"), (None, "a", "b"), (True, "a", "b"), (["in"], "a", "b"),
            ("a", "a", "a"), Equal(), (Equal(), "a", "b"), {"in": 1, "a": 2, "b": 3},
        ]:
            self.refused(InvalidFact, {"index": 0}, fact_text, thing)
        for name in NO_NAMES + [Equal()]:
            for fact in (("in", "a", name), ("cover", name, "a"), ("apart", name, name)):
                self.refused(InvalidFact, {"index": 0}, fact_text, fact)


class ReadFacts(Checked):
    def test_ordinary(self):
        facts = self.fresh(read_facts, ABC, ["a in b", "b apart c", "a in b"])
        self.assertIs(type(facts), Facts)
        self.assertEqual(facts.regions(), ABC)
        self.assertEqual(facts.stated(), [("in", "a", "b"), ("apart", "b", "c"), ("in", "a", "b")])
        self.assertEqual(read_facts(lines=[], regions=["b", "a"]).regions(), ["b", "a"])
        self.assertEqual(read_facts(["b"], ["b cover b"]).stated(), [("cover", "b", "b")])

    def test_awkward_names(self):
        lines = ["in in in", "in in apart", "cover cover in", "apart apart cover"]
        self.assertEqual(read_facts(AWKWARD, lines[:2]).stated(), [("in", "in", "in"), ("in", "in", "apart")])
        told = read_facts(AWKWARD, lines).stated()
        self.assertEqual(told, [("in", "in", "in"), ("in", "in", "apart"), ("cover", "cover", "in"), ("apart", "apart", "cover")])

    def test_no_regions(self):
        for thing in NO_LISTS + [[], REGIONS + ["z"]]:
            self.refused(InvalidRegion, {"index": None}, read_facts, thing, None)
        for thing in NO_NAMES + ["a"]:
            self.refused(InvalidRegion, {"index": 1}, read_facts, ["a", thing], ["a in z"])

    def test_no_lines(self):
        for thing in NO_LISTS + [["a in b"] * 1201, [None] * 1201]:
            self.refused(InvalidFact, {"index": None}, read_facts, ABC, thing)

    def test_wrong_lines(self):
        for line in NO_NAMES + NO_LISTS + [
            "a in", "a in ", " a in b", "a in b ", "a  in b", "a in  b", "a\tin b", "a in b\n", "a in d", "d in b", "ain b",
            "a over b", "a In b", "A in b", "in a b", "a, in b", "a in b;", "a in b; a in b", "a in b c", "a not in b", "-",
            ("in", "a", "b"), ["a in b"], b"a in b", Equal(), "a in bb", "a in a b", "aa in b", "a apart", "cover",
        ]:
            self.refused(InvalidFact, {"index": 0}, read_facts, ABC, [line])
            self.refused(InvalidFact, {"index": 2}, read_facts, ABC, ["a in b", "b in a", line, None])

    def test_1200_lines(self):
        self.assertEqual(len(read_facts(ABC, ["a in b"] * 1200).stated()), 1200)
        self.refused(InvalidFact, {"index": 1199}, read_facts, ABC, ["a in b"] * 1199 + ["a in d"])

    def test_contradictions(self):
        lines = ["a in b", "b apart b", "a cover a"]
        self.refused(Contradiction, {
            "there": [("a", True), ("b", True), ("b", False), ("a", False)], "back": [("a", False), ("a", True)],
        }, read_facts, ABC, lines)
        self.refused(InvalidFact, {"index": 3}, read_facts, ABC, lines + ["a"])


class RowText(Checked):
    def test_ordinary(self):
        row = Row([("put", "red", "b"), ("fill", "green", "c"), ("wipe", "a"), ("turn", "red", "blue")])
        self.assertEqual(self.untouched(row_text, row), "red on b; green under c; wipe a; red to blue")
        self.assertEqual(row_text(row=Row([("wipe", "wipe")])), "wipe wipe")
        self.assertEqual(row_text(Row([])), "-")


class ReadRow(Checked):
    def test_ordinary(self):
        text = "red on b; green under c; wipe a; red to blue"
        row = read_row(text)
        self.assertIs(type(row), Row)
        self.assertEqual(row.deeds(), [("put", "red", "b"), ("fill", "green", "c"), ("wipe", "a"), ("turn", "red", "blue")])
        self.assertEqual(read_row(text=text), row)
        self.assertEqual(read_row("-"), Row([]))
        self.assertEqual(read_row("a to a").deeds(), [("turn", "a", "a")])
        self.assertEqual(read_row(f"{LONG} under {LONG}").deeds(), [("fill", LONG, LONG)])

    def test_awkward_names(self):
        self.assertEqual(read_row("wipe on; wipe on on").deeds(), [("wipe", "on"), ("put", "wipe", "on")])
        self.assertEqual(read_row("wipe under; wipe under under; wipe wipe").deeds(), [
            ("wipe", "under"), ("fill", "wipe", "under"), ("wipe", "wipe"),
        ])
        self.assertEqual(read_row("wipe to to; to to wipe; wipe to").deeds(), [
            ("turn", "wipe", "to"), ("turn", "to", "wipe"), ("wipe", "to"),
        ])
        for one in AWKWARD:
            for other in AWKWARD:
                deeds = [("put", one, other), ("wipe", one), ("fill", one, other), ("turn", other, one), ("wipe", other)]
                self.assertEqual(read_row(row_text(Row(deeds))).deeds(), deeds)

    def wrong(self, text, column):
        self.refused(InvalidText, {"column": column}, read_row, text)
        self.assertEqual(plain_paints.longest_beginning(text), column)

    def test_beginnings_that_are_not_whole(self):
        for text in (
            "", "r", "red", "red ", "red o", "red on", "red on ", "red u", "red unde", "red under", "red t", "red to ", "wipe",
            "wipe ", "red on a;", "red on a; ", "wipe a; wipe", "wipe on ", "wipe a; b on", "wipe to ", LONG, LONG + " ",
        ):
            self.wrong(text, len(text))

    def test_the_longest_beginning(self):
        for text, column in [
            ("--", 1), ("- ", 1), ("-; wipe a", 1), ("-a", 1), ("a-", 1), (" ", 0), (" red on a", 0), (";", 0), ("; wipe a", 0),
            ("red  on a", 4), ("red on  a", 7), ("red on a ", 8), ("red on a  ;", 8), ("red on a;wipe b", 9), ("red on a ; wipe b", 8),
            ("red on a;  wipe b", 10), ("red on a;; ", 9), ("red on a; -", 10), ("red on a; ; ", 10), ("red;", 3), ("red on;", 6),
            ("red in a", 4), ("red over a", 5), ("red up", 5), ("red too a", 6), ("red ton", 6), ("red underx", 9), ("red onx", 6),
            ("wipe a b", 6), ("wipe a on b", 6), ("wipe on on on", 10), ("wipe un un", 7), ("wipe o n", 6), ("wipe  a", 5),
            ("wipe under ; ", 11), ("wipes a", 6), ("wip a", 4), ("wipe; wipe a", 4), ("Red on a", 0), ("reD on a", 2),
            ("red On a", 4), ("red on A", 7), ("red on a1", 8), ("red on a, wipe b", 8), ("a" * 13, 12), ("a" * 13 + " on b", 12),
            ("a on " + "b" * 13, 17), ("wipe " + "a" * 13, 17), ("wipe " + "on" * 7, 17), ("wipe a; " + "c" * 14, 20),
            ("wipe " + LONG + "; wipe " + LONG + "m", 36), ("(", 0), ("red on a.", 8), ("red on a; wipe b.", 16), ("red ; on a", 4),
            ("fill a under b", 5), ("put red on a", 4), ("red blue on a", 4), ("turn red to blue", 5), ("a on b on c", 6),
        ]:
            self.wrong(text, column)

    def test_no_string(self):
        for thing in NO_NAMES + NO_LISTS + [["-"], ("-",), b"-", b"wipe a", Equal(), Row([]), [("wipe", "a")]]:
            if not isinstance(thing, str):
                self.refused(InvalidText, {"column": None}, read_row, thing)

    def test_thirty_deeds_and_more(self):
        text = "; ".join(["wipe a"] * 30)
        self.assertEqual(read_row(text).deeds(), [("wipe", "a")] * 30)
        self.refused(TooMany, {"limit": 30}, read_row, text + "; a on b")
        self.refused(TooMany, {"limit": 30}, read_row, "; ".join(["a to b"] * 250))
        # A wrong text is refused as such, however many deeds it tells.
        self.wrong(text + "; a on b;", len(text) + 9)
        self.wrong(text + "; a on b; -", len(text) + 10)
        self.wrong("; ".join(["wipe a"] * 200) + "; wipe", 200 * 8 - 2 + 6)


if __name__ == "__main__":
    unittest.main()
