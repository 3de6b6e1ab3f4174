"""Calls about covered deeds, steps, deciding maps, sheets and texts end within seconds, at the bounds."""

import random
import unittest

from coatrows.comparing import alike
from coatrows.deciding import alike_on, deciding, needing
from coatrows.errors import InvalidMap, InvalidText, NothingToUndo, TooMany
from coatrows.facts import Facts
from coatrows.moves import covers, moves, moves_hold
from coatrows.rows import Row
from coatrows.sheet import Sheet
from coatrows.text import fact_text, read_facts, read_row, row_text
from tests.chance import REGIONS
from tests.checking import Checked
from tests.test_bounds_rows import ALL, CHAIN, FREE, FULL, MANY, MIXED, some_row

PAINTS = ("put", "wipe")
LETTERS = "abcdefghijklmnopqrstuvwxyz"
NAMES = [one + other + third for one in LETTERS for other in LETTERS for third in LETTERS][:5000]


class Moves(Checked):
    def test_covers(self):
        choice = random.Random(101)
        for facts in ALL:
            row = some_row(choice, PAINTS)
            told = [self.soon(covers, facts, row, at) for at in range(30)]
            self.assertIn(told[29], (None, []))
            for at, found in enumerate(told):
                if found is not None:
                    self.assertTrue(alike(facts, row, row.without(at)))

    def test_thirty_deeds_each(self):
        choice = random.Random(102)
        for facts in ALL:
            row = some_row(choice, PAINTS)
            steps = self.soon(moves, facts, row, row)
            self.assertLessEqual(len(steps), 960)
            self.assertTrue(self.soon(moves_hold, facts, row, row, steps))
            self.assertFalse(self.soon(moves_hold, facts, row, row, steps[1:]))

    def test_many_steps(self):
        row = Row([("put", "x", region) for region in REGIONS])
        lays = [("lay", ("wipe", REGIONS[at % 24])) for at in range(2500)]
        for facts in ALL:
            self.assertTrue(self.soon(moves_hold, facts, row, row, lays + [("take",)] * 2500))
            self.assertFalse(self.soon(moves_hold, facts, row, row, lays * 2))
        wipe = Row([("wipe", "ra")])
        swaps = [("swap", at) for at in range(2499, -1, -1)]
        self.assertFalse(self.soon(moves_hold, FREE, wipe, wipe, [("lay", ("wipe", "ra"))] * 2500 + swaps))


class Deciding(Checked):
    def test_24_regions(self):
        stated = [fact for fact in MANY if fact[0] != "cover" or fact[1] == fact[2]]
        for facts in (FREE, CHAIN, Facts(REGIONS, stated)):
            told = self.soon(deciding, facts)
            self.assertLessEqual(len(told), 301)
            for patch in (told[0], told[-1], told[len(told) // 2]):
                one, other = self.soon(needing, facts, patch)
                self.assertFalse(self.soon(alike_on, told, one, other))
            self.assertTrue(self.soon(alike_on, told, MIXED, MIXED))

    def test_many_patches_of_many_names(self):
        turns = [("turn", NAMES[at], NAMES[at + 1]) for at in range(15)]
        row = Row(turns + [("put", "x", NAMES[at]) for at in range(15)])
        self.assertTrue(self.soon(alike_on, [NAMES] * 1000, row, row))
        self.assertTrue(self.soon(alike_on, [NAMES[at:] for at in range(0, 5000, 5)], row, row))
        self.assertTrue(self.soon(alike_on, [[NAMES[at % 5000]] for at in range(4999)], row, row))
        with self.assertRaises(InvalidMap) as caught:
            self.soon(alike_on, [NAMES] * 1000 + [NAMES[1:] + NAMES[-1:]], row, row)
        self.assertEqual(caught.exception.index, 1000)


class Sheets(Checked):
    def test_thirty_deeds(self):
        for facts in ALL:
            sheet = Sheet(facts)
            self.assertIs(self.soon(sheet.__iadd__, MIXED), sheet)
            with sheet.trial():
                told = self.soon(sheet.tried, Row([]))
                self.assertEqual(told, [self.soon(sheet.__getitem__, region) for region in REGIONS])
                self.soon(sheet.undo)
                self.assertEqual(self.soon(sheet.tried, MIXED), told)
                for at in range(30):
                    self.soon(sheet.__setitem__, REGIONS[at % 24], "x")
            self.assertEqual(sheet.row, MIXED)

    def test_many_things(self):
        sheet = Sheet(FREE)
        for _ in range(3000):
            sheet += Row([])
        for _ in range(3000):
            sheet.undo()
        self.refused(NothingToUndo, {}, self.soon, sheet.undo)

    def test_1200_facts(self):
        sheet = Sheet(Facts(REGIONS, MANY[:1000]))
        for fact in MANY[1000:]:
            self.soon(sheet.learn, fact)
        self.assertEqual(sheet.facts.stated(), MANY)
        self.assertEqual(sheet.facts, FULL)
        with self.assertRaises(TooMany):
            self.soon(sheet.learn, MANY[0])


class Texts(Checked):
    def test_facts(self):
        lines = [self.soon(fact_text, fact) for fact in MANY]
        self.assertEqual(self.soon(read_facts, REGIONS, lines).stated(), MANY)

    def test_rows(self):
        longest = Row([("fill", "abcdefghijkl", "mnopqrstuvwx")] * 30)
        text = self.soon(row_text, longest)
        self.assertEqual(self.soon(read_row, text), longest)

    def test_texts_of_2000_characters(self):
        text = ("a on b; " * 250)[:1998]
        with self.assertRaises(TooMany):
            self.soon(read_row, text)
        for wrong, column in ((text + ";", 1999), (text + " ", 1998), ("a" * 2000, 12), (" " * 2000, 0), (text[:-1] + ";;", 1997)):
            with self.assertRaises(InvalidText) as caught:
                self.soon(read_row, wrong)
            self.assertEqual(caught.exception.column, column)


if __name__ == "__main__":
    unittest.main()
