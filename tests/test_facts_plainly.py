"""Facts against a plain going through of all patches and all ways."""

import random
import unittest
from itertools import combinations

from coatrows.errors import Contradiction
from coatrows.facts import Facts
from tests import plain
from tests.checking import Checked


def random_facts(choice, most_regions, most_facts):
    """Return random regions, in a random order, and facts about them."""
    regions = choice.sample(["a", "b", "c", "d", "e", "f"], choice.randint(1, most_regions))
    kinds = choice.choice([plain.KINDS, ("in", "apart"), ("in",), plain.KINDS])
    many = choice.randint(0, most_facts)
    facts = [(choice.choice(kinds), choice.choice(regions), choice.choice(regions)) for _ in range(many)]
    return regions, facts


def random_claims(choice, regions):
    """Return random claims, in a random order, some perhaps twice or contrary."""
    claims = plain.all_claims(regions)
    return [choice.choice(claims) for _ in range(choice.randint(0, 4))]


class Plainly(Checked):
    def cases(self, seed, many, most_regions, most_facts):
        """Return random facts that hold together; check what is said of those that do not."""
        choice = random.Random(seed)
        made, refused = [], 0
        for _ in range(many):
            regions, facts = random_facts(choice, most_regions, most_facts)
            if plain.possible(regions, facts):
                self.assertIsNone(plain.contradiction(regions, facts))
                made.append((choice, regions, facts, Facts(regions, facts)))
            else:
                there, back = plain.contradiction(regions, facts)
                self.refused(Contradiction, {"there": there, "back": back}, Facts, regions, facts)
                refused += 1
        self.assertGreater(len(made), many // 4)
        self.assertGreater(refused, many // 40)
        return made

    def test_what_follows(self):
        for _, regions, facts, made in self.cases(1, 500, 5, 9):
            following = plain.following(regions, facts)
            self.assertEqual(made.following(), following)
            for fact in plain.all_facts(regions):
                kind, one, other = fact
                self.assertEqual(fact in made, fact in following)
                if kind != "in":
                    self.assertEqual((kind, other, one) in made, fact in following)
            for region in regions:
                self.assertIn(("in", region, region), made)

    def test_patches(self):
        for choice, regions, facts, made in self.cases(2, 500, 5, 9):
            patches = plain.possible(regions, facts)
            self.assertEqual(made.count_patches(), len(patches))
            for _ in range(5):
                claims = random_claims(choice, regions)
                expected = [patch for patch in patches if plain.true_of(patch, claims)]
                self.assertEqual(list(made.patches(claims)), expected)
                self.assertEqual(made.least_patch(claims), expected[0] if expected else None)
                self.assertEqual(made.barred(claims) is None, bool(expected))

    def test_two_at_a_time(self):
        """A patch with told regions in and out is possible exactly if no way leads to a contrary."""
        for _, regions, _, made in self.cases(3, 100, 4, 6):
            claims = plain.all_claims(regions)
            for many in range(min(len(claims), 4) + 1):
                for told in combinations(claims, many):
                    ways = [made.way(one, plain.contrary(other)) for one in told for other in told]
                    self.assertEqual(made.least_patch(list(told)) is None, any(way is not None for way in ways))

    def test_ways(self):
        for _, regions, facts, made in self.cases(4, 300, 4, 8):
            for one in plain.all_claims(regions):
                for other in plain.all_claims(regions):
                    self.assertEqual(made.way(one, other), plain.best_way(regions, facts, one, [other]))

    def test_barred(self):
        for choice, regions, facts, made in self.cases(5, 500, 5, 8):
            for _ in range(5):
                claims = random_claims(choice, regions)
                self.assertEqual(made.barred(claims), plain.barred(regions, facts, claims))

    def test_equal_and_joined(self):
        choice = random.Random(6)
        equal = 0
        for _ in range(600):
            regions, facts = random_facts(choice, 3, 5)
            others = random_facts(choice, 3, 5)[1]
            others = [fact for fact in others if fact[1] in regions and fact[2] in regions]
            if not plain.possible(regions, facts) or not plain.possible(regions, others):
                continue
            one, other = Facts(regions, facts), Facts(regions, others)
            same = plain.possible(regions, facts) == plain.possible(regions, others)
            self.assertIs(one == other, same)
            equal += same
            both = facts + [fact for fact in others if fact not in facts]
            if plain.possible(regions, both):
                self.assertEqual((one & other).stated(), both)
            else:
                there, back = plain.contradiction(regions, both)
                self.refused(Contradiction, {"there": there, "back": back}, lambda: one & other)
        self.assertGreater(equal, 20)


if __name__ == "__main__":
    unittest.main()
