"""Rows: ordinary inputs, edges and what is refused."""

import random
import unittest

from coatrows.errors import InvalidColour, InvalidDeed, InvalidNumber, InvalidPatch, TooMany
from coatrows.facts import Facts
from coatrows.rows import Row, first_colours, shown
from tests.checking import NO_LISTS, NO_NAMES, Checked, Equal

DEEDS = [("put", "red", "b"), ("fill", "green", "c"), ("wipe", "a"), ("turn", "red", "blue")]
NO_INDICES = [None, True, False, -1, 4, 5, 10 ** 39, 1.0, 1.5, "0", "", b"0", [], [0], (), (0,), {}, slice(0, 1), Equal()]
ODD_DEEDS = NO_NAMES + [
    "put", ("put",), ("put", "red"), ("put", "red", "a", "b"), ["put", "red", "a"], ("Put", "red", "a"),
    ("paint", "red", "a"), ("", "red", "a"), (None, "red", "a"), (["put"], "red", "a"), ({}, "a"),
    ("fill", "red"), ("fill", "red", "a", "a"), ("wipe",), ("wipe", "red", "a"), ("turn", "red"),
    ("turn", "red", "blue", "a"), ("red", "on", "a"), Equal(), (Equal(), "red", "a"), (Equal(), "a"),
] + [(kind, thing, "a") for kind in ("put", "fill", "turn") for thing in NO_NAMES + [Equal()]] + [
    (kind, "a", thing) for kind in ("put", "fill", "turn") for thing in NO_NAMES + [Equal()]
] + [("wipe", thing) for thing in NO_NAMES + [Equal()]]


class Made(Checked):
    def test_deeds(self):
        row = self.untouched(Row, DEEDS)
        self.assertEqual(row.deeds(), DEEDS)
        self.assertEqual(Row(deeds=DEEDS).deeds(), DEEDS)
        self.assertEqual(len(row), 4)
        self.assertEqual([row[at] for at in range(4)], DEEDS)

    def test_names(self):
        row = Row([
            ("turn", "z", "y"), ("put", "red", "d"), ("fill", "blue", "b"), ("wipe", "c"), ("put", "b", "b"),
            ("fill", "red", "a"), ("turn", "y", "y"),
        ])
        self.assertEqual(row.regions(), ["a", "b", "c", "d"])
        self.assertEqual(row.colours(), ["b", "blue", "red", "y", "z"])

    def test_no_deeds(self):
        row = Row([])
        self.assertEqual((row.deeds(), row.regions(), row.colours(), len(row)), ([], [], [], 0))
        self.refused(InvalidNumber, {"number": 0}, row.without, 0)
        self.refused(InvalidNumber, {"number": 0}, lambda: row[0])
        self.assertEqual(row + row, row)

    def test_copies(self):
        deeds = list(DEEDS)
        row = Row(deeds)
        deeds.clear()
        self.assertEqual(row.deeds(), DEEDS)
        for call in (row.deeds, row.regions, row.colours):
            told = call()
            kept = list(told)
            told.append("x")
            del told[0]
            self.assertEqual(call(), kept)
        self.assertEqual(row.deeds(), DEEDS)

    def test_no_list_and_too_many(self):
        for thing in NO_LISTS + [tuple(DEEDS), Row([])]:
            self.refused(InvalidDeed, {"index": None}, Row, thing)
        self.assertEqual(len(Row([("wipe", "a")] * 30)), 30)
        self.refused(InvalidDeed, {"index": None}, Row, [("wipe", "a")] * 31)
        self.refused(InvalidDeed, {"index": None}, Row, [1] * 31)
        self.refused(InvalidDeed, {"index": 29}, Row, [("wipe", "a")] * 29 + [1])

    def test_no_deed(self):
        for thing in ODD_DEEDS:
            self.refused(InvalidDeed, {"index": 0}, Row, [thing])
            self.refused(InvalidDeed, {"index": 2}, Row, DEEDS[:2] + [thing, thing])


class Parts(Checked):
    def setUp(self):
        self.row = Row(DEEDS)

    def test_without(self):
        for at in range(4):
            self.assertEqual(self.row.without(at).deeds(), DEEDS[:at] + DEEDS[at + 1:])
        self.assertIsInstance(self.row.without(index=1), Row)
        self.assertEqual(self.row.deeds(), DEEDS)

    def test_no_index(self):
        for thing in NO_INDICES:
            for call in (self.row.without, lambda at: self.row[at]):
                with self.assertRaises(InvalidNumber) as caught:
                    call(thing)
                self.assertIs(caught.exception.number, thing)

    def test_sum(self):
        other = Row([("wipe", "x")])
        self.assertEqual((self.row + other).deeds(), DEEDS + [("wipe", "x")])
        self.assertEqual((other + self.row).deeds(), [("wipe", "x")] + DEEDS)
        self.assertEqual((self.row.deeds(), other.deeds()), (DEEDS, [("wipe", "x")]))

    def test_sums_at_the_bound(self):
        half = Row([("wipe", "a")] * 15)
        self.assertEqual(len(half + half), 30)
        self.refused(TooMany, {"limit": 30}, lambda: half + half + Row([("wipe", "a")]))
        self.assertEqual(half + Row([]), half)

    def test_sum_with_no_row(self):
        full = Row([("wipe", "a")] * 30)
        for thing in NO_LISTS + [[], DEEDS, Facts(["a"], [])]:
            self.refused(InvalidDeed, {"index": None}, lambda: full + thing)

    def test_equality(self):
        self.assertIs(self.row == Row(list(DEEDS)), True)
        self.assertIs(self.row != Row(list(DEEDS)), False)
        self.assertIs(self.row == Row(DEEDS[::-1]), False)
        self.assertIs(self.row == Row(DEEDS[:3]), False)
        for thing in (None, 1, "a", DEEDS, tuple(DEEDS), {}, object(), Facts(["a"], []), Row):
            self.assertIs(self.row == thing, False)
            self.assertIs(self.row != thing, True)

    def test_no_loop(self):
        with self.assertRaises(TypeError):
            for _ in self.row:
                pass
        self.assertRaises(TypeError, list, self.row)
        self.assertRaises(TypeError, iter, Row([]))


class Shown(Checked):
    def test_put(self):
        row = Row([("put", "red", "a")])
        for first in (None, "red", "blue"):
            self.assertEqual(shown(row, ["a"], first), "red")
            self.assertEqual(shown(row, ["b", "a"], first), "red")
            self.assertEqual(shown(row, ["b"], first), first)
            self.assertEqual(shown(row, [], first), first)

    def test_fill(self):
        row = Row([("fill", "red", "a")])
        self.assertEqual(shown(row, ["a"], None), "red")
        self.assertEqual(shown(row, ["a"], "blue"), "blue")
        self.assertIsNone(shown(row, ["b"], None))

    def test_wipe(self):
        row = Row([("wipe", "a")])
        self.assertIsNone(shown(row, ["a"], "red"))
        self.assertEqual(shown(row, ["b"], "red"), "red")
        self.assertIsNone(shown(row, ["a"], None))

    def test_turn(self):
        row = Row([("turn", "red", "blue")])
        self.assertEqual(shown(row, ["a"], "red"), "blue")
        self.assertEqual(shown(row, [], "red"), "blue")
        self.assertEqual(shown(row, ["a", "red"], "green"), "green")
        self.assertIsNone(shown(row, ["red"], None))
        same = Row([("turn", "red", "red")])
        for first in (None, "red", "blue"):
            self.assertEqual(shown(same, [], first), first)

    def test_in_order(self):
        row = Row([("put", "red", "a"), ("turn", "red", "blue"), ("fill", "green", "a"), ("wipe", "b")])
        self.assertEqual(shown(row, ["a"], None), "blue")
        self.assertIsNone(shown(row, ["a", "b"], None))
        row = Row([("wipe", "b"), ("fill", "green", "a"), ("fill", "red", "a"), ("turn", "green", "b")])
        self.assertEqual(shown(row, ["b", "a"], "x"), "b")
        row = Row([("turn", "a", "b"), ("turn", "b", "c"), ("turn", "c", "a")])
        self.assertEqual(shown(row, [], "a"), "a")
        self.assertEqual(shown(row, [], "c"), "a")

    def test_regions_and_colours_of_one_name(self):
        row = Row([("put", "a", "b"), ("turn", "b", "c")])
        self.assertEqual(shown(row, ["b"], "b"), "a")
        self.assertEqual(shown(row, ["a"], "b"), "c")

    def test_no_deeds_and_arguments_by_name(self):
        self.assertEqual(shown(first="red", patch=["x", "y"], row=Row([])), "red")
        self.assertIsNone(shown(Row([]), [], None))

    def test_arguments_stay_as_they_were(self):
        patch = ["c", "a"]
        row = Row(DEEDS)
        shown(row, patch, None)
        self.assertEqual((row.deeds(), patch), (DEEDS, ["c", "a"]))

    def test_a_patch_of_any_names(self):
        names = [one + other for one in "abcdefghij" for other in "abcdefghij"]
        self.assertEqual(shown(Row([("put", "red", "jj")]), names, None), "red")

    def test_no_patch(self):
        row = Row(DEEDS)
        for thing in NO_LISTS + [row]:
            self.refused(InvalidPatch, {"index": None}, shown, row, thing, None)
        for thing in NO_NAMES + [Equal(), "a"]:
            self.refused(InvalidPatch, {"index": 2}, shown, row, ["b", "a", thing, thing], None)
        self.refused(InvalidPatch, {"index": 1}, shown, row, ["a", "a"], None)

    def test_no_colour(self):
        for thing in NO_NAMES[1:] + [Equal(), DEEDS]:
            with self.assertRaises(InvalidColour) as caught:
                shown(Row([]), [], thing)
            self.assertIs(caught.exception.colour, thing)

    def test_the_patch_is_checked_ahead_of_the_colour(self):
        self.refused(InvalidPatch, {"index": 0}, shown, Row([]), [1], 1)


class ShownPlainly(Checked):
    def test_against_whole_pictures(self):
        choice = random.Random(7)
        patches = [[], ["a"], ["b"], ["a", "b"]]
        colours = ["red", "blue", "green"]
        for _ in range(300):
            picture = [choice.choice([None] + colours) for _ in patches]
            firsts = list(picture)
            deeds = []
            for _ in range(choice.randint(0, 8)):
                one, other, region = choice.choice(colours), choice.choice(colours), choice.choice("ab")
                inside = [region in patch for patch in patches]
                kind = choice.choice(["put", "fill", "wipe", "turn"])
                if kind == "put":
                    deeds.append(("put", one, region))
                    picture = [one if lies else now for now, lies in zip(picture, inside)]
                elif kind == "fill":
                    deeds.append(("fill", one, region))
                    picture = [one if lies and now is None else now for now, lies in zip(picture, inside)]
                elif kind == "wipe":
                    deeds.append(("wipe", region))
                    picture = [None if lies else now for now, lies in zip(picture, inside)]
                else:
                    deeds.append(("turn", one, other))
                    picture = [other if now == one else now for now in picture]
            row = Row(deeds)
            self.assertEqual([shown(row, patch, first) for patch, first in zip(patches, firsts)], picture)


class FirstColours(Checked):
    def test_rows_of_no_deed(self):
        self.assertEqual(first_colours(Row([]), Row([])), [None, "a"])

    def test_the_colours_of_either_row_rising(self):
        one = Row([("put", "red", "a"), ("turn", "x", "blue"), ("wipe", "d")])
        other = Row([("fill", "a", "c"), ("put", "red", "b"), ("turn", "c", "c")])
        expected = [None, "a", "blue", "c", "red", "x", "b"]
        self.assertEqual(first_colours(one, other), expected)
        self.assertEqual(first_colours(other=one, one=other), expected)
        self.assertEqual((len(one), len(other)), (3, 3))

    def test_regions_are_no_colours(self):
        self.assertEqual(first_colours(Row([("wipe", "a")]), Row([("put", "b", "a")])), [None, "b", "a"])

    def rows_with(self, names):
        """Return two rows with just these colours."""
        turns = [("turn", one, other) for one, other in zip(names[::2], names[1::2] + names[:1])]
        return Row(turns[::2]), Row(turns[1::2])

    def test_beyond_z(self):
        letters = [chr(97 + at) for at in range(26)]
        pairs = ["a" + letter for letter in letters]
        cases = [
            (letters[:25], "z"), (letters[1:], "a"), (letters, "aa"), (letters + ["aa"], "ab"), (letters + ["ab"], "aa"),
            (letters + pairs, "ba"), (letters + pairs + ["ba", "bc"], "bb"), (letters + pairs[:25], "az"),
        ]
        for names, new in cases:
            one, other = self.rows_with(names)
            self.assertEqual(first_colours(one, other), [None] + sorted(names) + [new])

    def test_what_is_told_is_new(self):
        one, other = Row([("put", "red", "a")]), Row([])
        first_colours(one, other).clear()
        self.assertEqual(first_colours(one, other), [None, "red", "a"])
        self.assertEqual(one.colours(), ["red"])


if __name__ == "__main__":
    unittest.main()
