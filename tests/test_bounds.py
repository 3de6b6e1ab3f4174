"""Calls at the bounds end within seconds."""

import unittest
from itertools import islice

from coatrows.errors import Contradiction
from coatrows.facts import Facts
from coatrows.rows import Row, first_colours, shown
from tests import plain
from tests.chance import REGIONS, many_facts
from tests.checking import Checked


class Bounds(Checked):
    def test_no_facts(self):
        made = self.soon(Facts, REGIONS, [])
        first = self.soon(lambda: list(islice(made.patches([]), 1000)))
        self.assertEqual(first[:4], [[], ["rx"], ["rw"], ["rw", "rx"]])
        self.assertEqual(len(first), 1000)
        claims = [(region, True) for region in REGIONS[:12]]
        self.assertEqual(self.soon(made.least_patch, claims), REGIONS[:12])
        self.assertEqual(self.soon(made.least_patch, claims + [("rx", True)]), REGIONS[:12] + ["rx"])
        self.assertIsNone(self.soon(made.barred, claims))
        self.assertEqual(self.soon(made.following), [])

    def test_1200_facts(self):
        hidden, facts = many_facts(8, 1200)
        made = self.soon(Facts, REGIONS, facts)
        patches = self.soon(lambda: list(islice(made.patches([]), 1000)))
        self.assertIn(hidden, patches)
        for patch in patches:
            self.assertTrue(all(plain.keeps(patch, fact) for fact in facts))
        following = self.soon(made.following)
        for fact in facts:
            self.assertIn(fact, made)
        for patch in patches:
            self.assertTrue(all(plain.keeps(patch, fact) for fact in following))
        self.assertTrue(self.soon(lambda: made & made == made))

    def test_hundreds_of_facts_with_many_patches(self):
        facts = [("in", REGIONS[at], REGIONS[at + 12]) for at in range(12)] * 60
        made = self.soon(Facts, REGIONS, facts)
        first = self.soon(lambda: list(islice(made.patches([(REGIONS[0], True)]), 5000)))
        self.assertEqual(first[0], [REGIONS[0], REGIONS[12]])
        self.assertTrue(all(plain.keeps(patch, fact) for patch in first for fact in facts[:12]))
        self.assertEqual(self.soon(made.following), facts[:12])

    def test_a_few_patches_far_apart(self):
        # Only whole chains are possible: the way to each patch is found without going astray.
        chain = [("in", one, other) for one, other in zip(REGIONS, REGIONS[1:])]
        made = self.soon(Facts, REGIONS, chain)
        patches = self.soon(lambda: list(made.patches([])))
        self.assertEqual(patches, [REGIONS[24 - many:] for many in range(25)])
        self.assertEqual(len(self.soon(made.following)), 24 * 23 // 2)
        way = self.soon(made.way, ("ra", True), ("rx", True))
        self.assertEqual(way, [(region, True) for region in REGIONS])

    def test_a_long_contradiction(self):
        chain = [("in", one, other) for one, other in zip(REGIONS, REGIONS[1:])]
        facts = [("apart", "ra", "rx"), ("cover", "ra", "rx"), ("in", "rx", "ra")] + chain
        with self.assertRaises(Contradiction) as caught:
            self.soon(Facts, REGIONS, facts + chain * 50)
        there = [(region, True) for region in REGIONS] + [("ra", False)]
        self.assertEqual(caught.exception.there, there)
        self.assertEqual(caught.exception.back, [("ra", False), ("rx", False), ("ra", True)])

    def test_many_claims(self):
        made = Facts(REGIONS, [("in", one, other) for one, other in zip(REGIONS, REGIONS[1:])])
        claims = [("rx", False)] * 2500 + [("ra", True)] * 2500
        way = self.soon(made.barred, claims)
        self.assertEqual(way, [(region, True) for region in REGIONS])
        self.assertIsNone(self.soon(made.least_patch, claims))

    def test_counting(self):
        made = Facts(REGIONS[:16], [])
        self.assertEqual(self.soon(made.count_patches), 2 ** 16)

    def test_rows(self):
        row = Row([("fill", "red", region) for region in REGIONS] + [("turn", "red", "blue")] * 6)
        self.assertEqual(self.soon(shown, row, REGIONS, None), "blue")
        self.assertEqual(self.soon(first_colours, row, row), [None, "blue", "red", "a"])


if __name__ == "__main__":
    unittest.main()
