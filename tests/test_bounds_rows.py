"""Calls about maps and rows end within seconds, at the bounds and with millions of possible patches."""

import random
import unittest
from math import factorial

from coatrows.comparing import (
    alike, bare, compare_holds, compared, count_orders, hidden, least_order, may_exchange, turns_ahead,
)
from coatrows.facts import Facts
from coatrows.hands import from_above, hands_agree, hands_part, helping
from coatrows.maps import drawn, facts_of, first_break, majority, making, making_holds
from coatrows.outcomes import colours_on, outcome_at, outcomes, possible_outcomes
from coatrows.rows import Row, shown
from tests import chance, plain
from tests.chance import REGIONS
from tests.checking import Checked

FREE = Facts(REGIONS, [])
CHAIN = Facts(REGIONS, [("in", one, other) for one, other in zip(REGIONS, REGIONS[1:])] * 50)
HIDDEN, MANY = chance.many_facts(9, 1200)
FULL = Facts(REGIONS, MANY)
PAIRS = Facts(REGIONS, [("in", REGIONS[at], REGIONS[at + 12]) for at in range(12)] * 60)
ALL = [FREE, CHAIN, FULL, PAIRS]
COLOURS = ["x" + letter for letter in "abcdefghijklmnopqrstuvwxyz"]

# As many outcomes as a row can have: each wipe stands ahead of each fill.
WIPES = [("wipe", region) for region in REGIONS[:12]]
FILLS = [("fill", colour, region) for colour, region in zip(COLOURS, REGIONS[12:])]
MIXED = Row(WIPES + FILLS + WIPES[:3] + FILLS[:3])
OTHER = Row(WIPES[::-1] + FILLS[::-1] + WIPES[:3] + FILLS[:3])


def some_row(choice, kinds=chance.KINDS):
    """Return a row of 30 deeds."""
    return Row([chance.some_deed(choice, REGIONS, kinds) for _ in range(30)])


class Maps(Checked):
    def patches(self, many):
        choice = random.Random(71)
        return [chance.some_patch(choice, REGIONS) for _ in range(many)]

    def test_facts_of(self):
        patches = self.patches(1200)
        self.assertEqual(self.soon(facts_of, REGIONS, patches).stated(), [])
        kept = self.soon(facts_of, REGIONS, [REGIONS[at % 25:] for at in range(1200)]).stated()
        self.assertEqual(len(kept), 24 * 23 // 2)

    def test_first_break(self):
        self.assertIsNone(self.soon(first_break, FULL, [HIDDEN] * 1200))
        self.assertEqual(self.soon(first_break, CHAIN, [REGIONS] * 1199 + [REGIONS[3:4]]), (1199, 3))

    def test_majority(self):
        self.assertEqual(self.soon(majority, REGIONS, REGIONS[:12], REGIONS[6:], REGIONS[9:15]), REGIONS[6:15])

    def test_making(self):
        patches = self.soon(drawn, FREE)
        patches = patches + self.patches(1200 - len(patches))
        for patch in self.patches(20) + [[], REGIONS]:
            steps = self.soon(making, REGIONS, patches, patch)
            self.assertLessEqual(len(steps), 253)
            self.assertTrue(self.soon(making_holds, REGIONS, patches, patch, steps))
        steps = [(number, 1199 + number, 0) for number in range(1, 5000)]
        self.assertFalse(self.soon(making_holds, REGIONS, patches, [], steps + [(0, 0, 6200)]))

    def test_drawn(self):
        for facts in ALL:
            patches = self.soon(drawn, facts)
            self.assertLessEqual(len(patches), 2 * 24 * 24 + 24)
            self.assertIsNone(self.soon(first_break, facts, patches))
            self.assertEqual(facts_of(REGIONS, patches), facts)


class Outcomes(Checked):
    def test_many(self):
        told = self.soon(outcomes, MIXED, REGIONS)
        self.assertGreater(len(told), 120)
        for facts in ALL:
            possible = self.soon(possible_outcomes, facts, MIXED)
            self.assertTrue(all(outcome in told for outcome in possible))
            patch = facts.least_patch([])
            claims = [(REGIONS[5], REGIONS[5] in patch)] * 5000
            for first in (None, "xx"):
                at = self.soon(outcome_at, facts, MIXED, patch, first)
                self.assertTrue(plain.true_of(patch, told[at][3]))
                colours = self.soon(colours_on, facts, MIXED, claims, first)
                self.assertIn(shown(MIXED, patch, first), colours)

    def test_thirty_turns(self):
        row = Row([("turn", one, other) for one, other in zip(COLOURS, COLOURS[1:])])
        end = self.soon(outcomes, row, REGIONS)[0][4]
        self.assertEqual(end, tuple((colour, COLOURS[-1]) for colour in COLOURS[:-1]))


class Compared(Checked):
    def pairs(self):
        choice = random.Random(72)
        told = [(MIXED, MIXED), (MIXED, OTHER), (MIXED, Row([])), (MIXED, MIXED.without(29))]
        for kinds in (chance.KINDS, ("put",), ("put", "wipe"), ("fill", "wipe"), ("turn",)):
            told += [(some_row(choice, kinds), some_row(choice, kinds))]
        return told

    def test_two_rows(self):
        for facts in ALL:
            for one, other in self.pairs():
                same = self.soon(alike, facts, one, other)
                told = self.soon(compared, facts, one, other)
                self.assertEqual(told[0], "alike" if same else "parted")
                self.assertTrue(self.soon(compare_holds, facts, one, other, told))
                helped = self.soon(helping, facts, one, other)
                if not same:
                    self.assertNotEqual(shown(one, told[1], told[2]), shown(other, told[1], told[2]))
                for fact in helped[:3]:
                    if len(facts.stated()) < 1200:
                        self.assertTrue(alike(Facts(REGIONS, facts.stated() + [fact]), one, other))

    def test_long_papers(self):
        told = compared(FREE, MIXED, MIXED)
        for paper in told[1:]:
            self.assertTrue(all(len(listed) <= 1000 for listed in paper))
        long = tuple([listed + listed[:1] * (1000 - len(listed)) if listed else [] for listed in paper] for paper in told[1:])
        self.assertTrue(self.soon(compare_holds, FREE, MIXED, MIXED, ("alike", *long)))

    def test_hidden_deeds(self):
        rows = [
            MIXED, OTHER, Row((WIPES + WIPES[::-1] + WIPES)[:30]), Row(FILLS + FILLS[::-1] + FILLS[:6]),
            Row(WIPES[:8] + FILLS[:8] + FILLS[:8] + FILLS[:6]), Row([("turn", "x", "y")] * 10 + WIPES[:10] + FILLS[:10]),
        ]
        for facts in ALL:
            for row in rows:
                told = self.soon(hidden, facts, row)
                bared = self.soon(bare, facts, row)
                self.assertEqual(len(told) > 0, len(bared) < len(row))
                self.assertTrue(alike(facts, row, bared))
                self.assertEqual(hidden(facts, bared), [])

    def test_orders(self):
        choice = random.Random(73)
        for facts in ALL:
            for row in (MIXED, OTHER, some_row(choice), some_row(choice, ("put",)), some_row(choice, ("turn",))):
                self.assertTrue(alike(facts, row, self.soon(least_order, facts, row)))
                self.assertTrue(alike(facts, row, self.soon(turns_ahead, row)))
                self.soon(may_exchange, facts, row, 28)
        self.assertEqual(self.soon(count_orders, FREE, Row(WIPES)), factorial(12))
        twelve = Row([("turn", "x", "y")] + WIPES[:5] + [("put", "x", "ra")] + FILLS[:5])
        self.assertGreater(self.soon(count_orders, FREE, twelve), 1)


class Hands(Checked):
    def test_two_hands(self):
        choice = random.Random(74)
        rows = [Row(WIPES[:6] + FILLS[:6]), Row(WIPES[6:] + FILLS[6:]), Row(FILLS), Row(WIPES)]
        rows += [Row(some_row(choice, ("put", "fill", "wipe")).deeds()[:12]) for _ in range(3)]
        for facts in ALL:
            for one in rows:
                for other in rows:
                    told = self.soon(hands_part, facts, one, other)
                    if told is not None:
                        self.assertTrue(shown(one + other, told[0], None) in told[1])
                        self.assertGreater(len(told[1]), 1)

    def test_thirty_hands(self):
        same = Row([("put", "x", REGIONS[at % 24]) for at in range(30)])
        for facts in ALL:
            self.assertIsNone(self.soon(hands_agree, facts, [same] * 30))
        wipes = Row([("wipe", REGIONS[at % 24]) for at in range(30)])
        self.assertIsNone(self.soon(hands_agree, FREE, [wipes] * 30))
        self.assertEqual(self.soon(hands_agree, FREE, [wipes] * 29 + [same]), (0, 29))

    def test_from_above(self):
        row = Row([("put", colour, region) for colour, region in zip(COLOURS, REGIONS)] + [("put", "x", "ra")] * 6)
        self.assertEqual(len(self.soon(from_above, row)), 30)


if __name__ == "__main__":
    unittest.main()
