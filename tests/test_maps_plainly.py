"""Maps against a plain going through of all patches and all majorities."""

import random
import unittest

from coatrows.facts import Facts
from coatrows.maps import drawn, facts_of, first_break, majority, making, making_holds
from tests import chance, plain, plain_rows
from tests.checking import Checked


def cases(seed, many, most_patches):
    """Return random regions, facts about them that hold together, and maps of them."""
    choice = random.Random(seed)
    told = []
    for _ in range(many):
        regions = choice.sample(["a", "b", "c", "d"], choice.randint(1, 4))
        facts = chance.some_facts(choice, regions, 6)
        patches = [chance.some_patch(choice, regions) for _ in range(choice.randint(1, most_patches))]
        told.append((choice, regions, facts, patches))
    return told


class Plainly(Checked):
    def test_facts_of(self):
        for _, regions, _, patches in cases(21, 300, 6):
            kept = [fact for fact in plain.all_facts(regions) if all(plain.keeps(patch, fact) for patch in patches)]
            made = facts_of(regions, patches)
            self.assertEqual(made.stated(), kept)
            self.assertEqual(made.following(), kept)
            self.assertEqual(made.regions(), regions)

    def test_first_break(self):
        broken = 0
        for _, regions, facts, patches in cases(22, 300, 4):
            breaks = [
                (at, index) for at, patch in enumerate(patches) for index, fact in enumerate(facts)
                if not plain.keeps(patch, fact)
            ]
            told = first_break(Facts(regions, facts), patches)
            self.assertEqual(told, breaks[0] if breaks else None)
            broken += len(breaks) > 1
        self.assertGreater(broken, 50)

    def test_making(self):
        longest, refused = 0, 0
        for choice, regions, _, patches in cases(23, 300, 6):
            made = plain_rows.made_from(regions, patches)
            for patch in plain.all_patches(regions):
                steps = making(regions, patches, patch)
                self.assertEqual(steps is not None, patch in made)
                if steps is None:
                    refused += 1
                    self.assertIs(making_holds(regions, patches, patch, []), False)
                    continue
                self.assertLessEqual(len(steps), (len(regions) - 1) * (len(regions) - 2) // 2)
                longest = max(longest, len(steps))
                pool = list(patches)
                for one, two, three in steps:
                    pool.append(plain_rows.majority(regions, pool[one], pool[two], pool[three]))
                self.assertEqual(pool[-1] if steps else patch, patch)
                self.assertTrue(steps or patch in patches)
                self.assertIs(making_holds(regions, patches, patch, steps), True)
                if steps:
                    other = choice.choice([known for known in plain.all_patches(regions) if known != patch])
                    self.assertIs(making_holds(regions, patches, other, steps), False)
        self.assertEqual(longest, 3)
        self.assertGreater(refused, 50)

    def test_making_holds(self):
        verdicts = []
        for choice, regions, _, patches in cases(24, 300, 4):
            pool, steps = list(patches), []
            for _ in range(choice.randint(1, 4)):
                step = tuple(choice.randrange(len(pool)) for _ in range(3))
                steps.append(step)
                pool.append(plain_rows.majority(regions, *[pool[number] for number in step]))
                self.assertEqual(majority(regions, *[pool[number] for number in step]), pool[-1])
            patch = choice.choice([pool[-1], chance.some_patch(choice, regions)])
            verdicts.append(making_holds(regions, patches, patch, steps))
            self.assertIs(verdicts[-1], patch == pool[-1])
            late = steps[:-1] + [(0, len(pool) - 1, 0)]
            self.assertIs(making_holds(regions, patches, pool[-1], late), False)
        self.assertGreater(verdicts.count(False), 50)

    def test_drawn(self):
        for _, regions, facts, _ in cases(25, 300, 1):
            made = Facts(regions, facts)
            patches = drawn(made)
            self.assertLessEqual(len(patches), 2 * len(regions) ** 2 + len(regions))
            possible = plain.possible(regions, facts)
            self.assertTrue(all(patch in possible for patch in patches))
            kept = [fact for fact in plain.all_facts(regions) if all(plain.keeps(patch, fact) for patch in patches)]
            self.assertEqual(kept, plain.following(regions, facts))


if __name__ == "__main__":
    unittest.main()
