"""Maps: the facts they keep, majorities, what is made of them, and drawn maps."""

import unittest

from coatrows.errors import InvalidMap, InvalidPatch, InvalidRegion
from coatrows.facts import Facts
from coatrows.maps import drawn, facts_of, first_break, majority, making, making_holds
from tests import plain
from tests.checking import NO_LISTS, NO_NAMES, WRONG_PATCHES, Checked, Equal

NAMES = ["r" + chr(97 + at) for at in range(24)]
ABC = ["a", "b", "c"]
FACTS = Facts(ABC, [("in", "a", "b"), ("apart", "b", "c")])


class FactsOf(Checked):
    def test_ordinary(self):
        made = self.fresh(facts_of, ["c", "a", "b"], [["c"], ["a", "b"], ["c", "b"], ["c", "b"]])
        self.assertEqual(made.regions(), ["c", "a", "b"])
        self.assertEqual(made.stated(), [("in", "a", "b"), ("apart", "c", "a"), ("cover", "c", "a"), ("cover", "c", "b")])
        self.assertEqual(made.following(), made.stated())

    def test_by_names(self):
        self.assertEqual(facts_of(regions=["a"], patches=[[]]).stated(), [("apart", "a", "a")])

    def test_one_region(self):
        self.assertEqual(facts_of(["a"], [[]]).stated(), [("apart", "a", "a")])
        self.assertEqual(facts_of(["a"], [["a"]]).stated(), [("cover", "a", "a")])
        self.assertEqual(facts_of(["a"], [["a"], [], ["a"]]).stated(), [])

    def test_one_patch(self):
        kept = [
            ("in", "a", "b"), ("in", "a", "c"), ("in", "b", "c"), ("in", "c", "b"), ("apart", "a", "a"),
            ("apart", "a", "b"), ("apart", "a", "c"), ("cover", "a", "b"), ("cover", "a", "c"), ("cover", "b", "b"),
            ("cover", "b", "c"), ("cover", "c", "c"),
        ]
        self.assertEqual(facts_of(ABC, [["b", "c"]]).stated(), kept)

    def test_as_many_facts_as_there_are(self):
        made = facts_of(NAMES, [[]] * 1200)
        self.assertEqual(len(made.stated()), 24 * 23 + 24 * 25 // 2)
        self.assertEqual(list(made.patches([])), [[]])

    def test_all_patches(self):
        self.assertEqual(facts_of(ABC, plain.all_patches(ABC)).stated(), [])


class FirstBreak(Checked):
    def test_none(self):
        self.assertIsNone(self.fresh(first_break, FACTS, [[], ["c"], ["b"], ["a", "b"], []]))
        self.assertIsNone(first_break(Facts(["a"], []), [["a"], []]))

    def test_the_first_patch_then_the_first_fact(self):
        facts = Facts(ABC, [("cover", "a", "b"), ("apart", "a", "c"), ("in", "a", "b"), ("apart", "c", "a")])
        self.assertEqual(first_break(facts, [["b"], ["a", "c"], []]), (1, 1))
        self.assertEqual(first_break(facts, [["b"], ["a"], ["a", "c"], []]), (1, 2))
        self.assertEqual(first_break(facts, [["a", "b"], ["b", "c"], ["c"]]), (2, 0))
        self.assertEqual(first_break(facts=facts, patches=[["a", "b", "c"]]), (0, 1))

    def test_only_stated_facts(self):
        facts = Facts(ABC, [("in", "b", "c"), ("in", "a", "b")])
        self.assertEqual(first_break(facts, [["a"]]), (0, 1))

    def test_facts_about_one_region(self):
        self.assertEqual(first_break(Facts(["a"], [("in", "a", "a"), ("apart", "a", "a")]), [[], ["a"]]), (1, 1))
        self.assertEqual(first_break(Facts(["a"], [("in", "a", "a"), ("cover", "a", "a")]), [["a"], []]), (1, 1))


class Majority(Checked):
    def test_ordinary(self):
        self.assertEqual(self.fresh(majority, ABC, ["a"], ["b", "c"], ["a", "c"]), ["a", "c"])
        self.assertEqual(majority(ABC, ["a"], ["b"], ["c"]), [])
        self.assertEqual(majority(regions=["c", "a"], one=["c", "a"], two=[], three=["c", "a"]), ["c", "a"])
        self.assertEqual(majority(["a"], ["a"], [], []), [])
        self.assertEqual(majority(NAMES, NAMES, [], NAMES), NAMES)

    def test_all(self):
        patches = plain.all_patches(ABC)
        for one in patches:
            for two in patches:
                for three in patches:
                    found = [at for at in ABC if (at in one) + (at in two) + (at in three) >= 2]
                    self.assertEqual(majority(ABC, one, two, three), found)

    def test_refused(self):
        for thing, index in WRONG_PATCHES:
            self.refused(InvalidPatch, {"index": index}, majority, ABC, thing, ["b", "a"], None)
            self.refused(InvalidPatch, {"index": index}, majority, ABC, ["a"], thing, ["b", "x"])
            self.refused(InvalidPatch, {"index": index}, majority, ABC, ["a"], [], thing)


class Making(Checked):
    def check(self, regions, patches, patch):
        """Check that steps that are told make a patch, and return them."""
        steps = self.fresh(making, regions, patches, patch)
        self.assertLessEqual(len(steps), (len(regions) - 1) * (len(regions) - 2) // 2)
        pool = [list(known) for known in patches]
        for step in steps:
            self.assertIs(type(step), tuple)
            self.assertEqual(len(step), 3)
            self.assertTrue(all(type(number) is int and 0 <= number < len(pool) for number in step))
            pool.append(majority(regions, *[pool[number] for number in step]))
        if steps:
            self.assertEqual(pool[-1], patch)
        else:
            self.assertIn(patch, patches)
        self.assertIs(making_holds(regions, patches, patch, steps), True)
        return steps

    def test_a_patch_of_the_map(self):
        self.assertEqual(self.check(["a"], [[], ["a"]], ["a"]), [])
        self.assertEqual(self.check(["a", "b"], [["a"], ["b"], ["b"]], ["b"]), [])
        self.check(ABC, [["a"], ["b"], ["c"]], ["c"])

    def test_one_majority(self):
        self.assertEqual(len(self.check(ABC, [["a"], ["b"], ["c"]], [])), 1)
        self.assertEqual(len(self.check(ABC, [["a", "b"], ["b", "c"], ["a", "c"]], ABC)), 1)

    def test_not_made(self):
        self.assertIsNone(making(["a"], [[]], ["a"]))
        self.assertIsNone(making(["a"], [["a"]], []))
        self.assertIsNone(making(["a", "b"], [[], ["a"], ["b"]], ["a", "b"]))
        self.assertIsNone(making(ABC, [["a"], ["b"]], []))
        self.assertIsNone(making(patches=[["a"], ["b"], ["c"]], regions=ABC, patch=["a", "b"]))

    def test_all_regions(self):
        alone = [[region] for region in NAMES]
        self.assertLessEqual(len(self.check(NAMES, alone, [])), 253)
        self.assertIsNone(making(NAMES, alone, NAMES[:2]))
        pairs = [NAMES[:at] + NAMES[at + 1:] for at in range(24)]
        self.assertLessEqual(len(self.check(NAMES, pairs, NAMES)), 253)

    def test_where_each_pair_is_shown_by_one_patch_alone(self):
        # Each patch leaves out all but two regions, so no patch is right about three of them.
        pairs = [[one, other] for at, one in enumerate(NAMES) for other in NAMES[at + 1:]]
        steps = self.check(NAMES, pairs, NAMES)
        self.assertEqual(len(steps), 253)
        for many in range(3, 10):
            pairs = [[one, other] for at, one in enumerate(NAMES[:many]) for other in NAMES[at + 1:many]]
            self.check(NAMES[:many], pairs, NAMES[:many])


class MakingHolds(Checked):
    MAP = [["a"], ["b"], ["c"]]

    def holds(self, steps, patch=(), regions=("a", "b", "c")):
        return self.fresh(making_holds, list(regions), self.MAP, list(patch), steps)

    def test_right_steps(self):
        self.assertIs(self.holds([(0, 1, 2)]), True)
        self.assertIs(self.holds([(0, 0, 1), (3, 2, 1)]), True)
        self.assertIs(self.holds([(0, 1, 2), (1, 1, 3)], ["b"]), True)
        self.assertIs(self.holds([(0, 0, 0)] * 5000, ["a"]), True)
        self.assertIs(self.holds([], ["c"]), True)
        self.assertIs(making_holds(steps=[], patch=["a"], patches=self.MAP, regions=ABC), True)

    def test_steps_that_make_another_patch(self):
        self.assertIs(self.holds([]), False)
        self.assertIs(self.holds([(0, 1, 2), (0, 0, 1)]), False)
        self.assertIs(self.holds([(0, 1, 2)], ["a"]), False)

    def test_no_steps_at_all(self):
        odd = NO_LISTS + [((0, 1, 2),), "", {0: (0, 1, 2)}]
        for thing in odd:
            self.assertIs(self.holds(thing), False)
            self.assertIs(self.holds(thing, ["a"]), False)
        odd = NO_NAMES + [
            [0, 1, 2], (0, 1), (0, 1, 2, 2), (0, 1, 5), (0, 1, -1), (-3, -2, -1), (0, True, 2), (False, 1, 2),
            (0, 1.0, 2), (0, 1, "2"), (0, 1, None), (0, 1, [2]), (0, 1, (2,)), (0, 1, Equal()), Equal(), 10 ** 39,
            (0, 1, 10 ** 39), "012", {0: 0, 1: 1, 2: 2},
        ]
        for thing in odd:
            self.assertIs(self.holds([thing]), False)
            self.assertIs(self.holds([thing, (0, 1, 2)]), False)
            self.assertIs(self.holds([(0, 0, 0), thing, (0, 1, 2)]), False)
            self.assertIs(self.holds([(0, 1, 2), thing]), False)

    def test_a_step_knows_no_later_ones(self):
        self.assertIs(self.holds([(0, 1, 3)]), False)
        self.assertIs(self.holds([(0, 1, 2), (3, 3, 4)]), False)
        self.assertIs(self.holds([(0, 1, 2), (3, 3, 5), (3, 3, 3)]), False)


class Drawn(Checked):
    def check(self, regions, facts):
        made = Facts(regions, facts)
        patches = self.fresh(drawn, made)
        self.assertLessEqual(len(patches), 2 * len(regions) ** 2 + len(regions))
        self.assertIsNone(first_break(made, patches))
        self.assertEqual(facts_of(regions, patches), made)
        return patches

    def test_ordinary(self):
        self.check(ABC, [("in", "a", "b"), ("apart", "b", "c")])
        self.check(["c", "a", "b"], [("cover", "a", "b"), ("in", "c", "a")])
        self.assertEqual(facts_of(ABC, drawn(facts=FACTS)), FACTS)

    def test_one_region(self):
        self.assertEqual(sorted(self.check(["a"], [])), [[], ["a"]])
        self.assertEqual(self.check(["a"], [("apart", "a", "a")]), [[]])
        self.assertEqual(self.check(["a"], [("cover", "a", "a")]), [["a"]])

    def test_regions_that_are_empty_or_everything(self):
        self.assertEqual(self.check(ABC, [("apart", "a", "a"), ("cover", "b", "b"), ("in", "c", "a")]), [["b"]])
        self.check(ABC, [("apart", "a", "a")])
        self.check(ABC, [("cover", "c", "c"), ("in", "a", "b")])

    def test_all_regions(self):
        self.check(NAMES, [])
        self.check(NAMES, [("in", one, other) for one, other in zip(NAMES, NAMES[1:])])
        self.check(NAMES, [("cover", one, other) for one in NAMES for other in NAMES if one != other] * 2)


class Refused(Checked):
    CALLS = [
        lambda regions, patches: facts_of(regions, patches),
        lambda regions, patches: making(regions, patches, []),
        lambda regions, patches: making_holds(regions, patches, [], []),
    ]

    def test_regions(self):
        odd = [(thing, None) for thing in NO_LISTS + [[], NAMES + ["z"], ["A"] * 25]]
        odd += [([thing], 0) for thing in NO_NAMES + [Equal()]] + [(["a", "b", "a"], 2), (["a", "B", "a"], 1)]
        for thing, index in odd:
            for call in self.CALLS:
                self.refused(InvalidRegion, {"index": index}, call, thing, None)
            self.refused(InvalidRegion, {"index": index}, majority, thing, None, None, None)
            self.refused(InvalidRegion, {"index": index}, making, thing, [[]], None)
            self.refused(InvalidRegion, {"index": index}, making_holds, thing, [[]], None, None)

    def test_maps(self):
        odd = [(thing, None) for thing in NO_LISTS + [[], [[]] * 1201, [None] * 1201]]
        for thing, _ in WRONG_PATCHES:
            odd += [([thing], 0), ([["a"], [], thing, None], 2)]
        odd.append(([[]] * 1199 + [["d"]], 1199))
        for thing, index in odd:
            for call in self.CALLS:
                self.refused(InvalidMap, {"index": index}, call, ABC, thing)
            self.refused(InvalidMap, {"index": index}, first_break, FACTS, thing)
            self.refused(InvalidMap, {"index": index}, making, ABC, thing, None)
            self.refused(InvalidMap, {"index": index}, making_holds, ABC, thing, None, None)

    def test_1200_patches(self):
        self.assertEqual(facts_of(["a"], [[]] * 1200).stated(), [("apart", "a", "a")])
        self.assertIsNone(first_break(FACTS, [["b"]] * 1200))
        self.assertEqual(making(ABC, [["b"]] * 1200, ["b"]), [])
        self.assertIs(making_holds(ABC, [["b"]] * 1200, ["b"], [(1199, 0, 600)]), True)

    def test_patches(self):
        for thing, index in WRONG_PATCHES:
            self.refused(InvalidPatch, {"index": index}, making, ABC, [["a"]], thing)
            self.refused(InvalidPatch, {"index": index}, making_holds, ABC, [["a"]], thing, None)


if __name__ == "__main__":
    unittest.main()
