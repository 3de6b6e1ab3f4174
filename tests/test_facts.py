"""Facts: ordinary inputs and the edges that the document names."""

import copy
import unittest

from coatrows.facts import Facts
from coatrows.rows import Row
from tests.checking import Checked, Equal
from tests.plain import all_facts

LETTERS = [chr(97 + at) for at in range(24)]


class Stated(Checked):
    def test_regions_and_facts_as_passed(self):
        regions = ["b", "a", "abcdefghijkl"]
        facts = [("cover", "a", "b"), ("in", "b", "a"), ("cover", "a", "b"), ("in", "a", "a")]
        made = self.untouched(Facts, regions, facts)
        self.assertEqual(made.regions(), ["b", "a", "abcdefghijkl"])
        self.assertEqual(made.stated(), facts)

    def test_arguments_by_name(self):
        made = Facts(facts=[("in", "a", "b")], regions=["a", "b"])
        self.assertEqual(made.way(other=("b", True), claim=("a", True)), [("a", True), ("b", True)])
        self.assertEqual(made.least_patch(claims=[("a", True)]), ["a", "b"])
        self.assertEqual(made.barred(claims=[("a", True)]), None)
        self.assertEqual(list(made.patches(claims=[("b", True)])), [["b"], ["a", "b"]])

    def test_what_was_handed_in_is_copied(self):
        regions, facts = ["a", "b"], [("in", "a", "b")]
        made = Facts(regions, facts)
        regions.append("c")
        facts.append(("apart", "a", "b"))
        self.assertEqual((made.regions(), made.stated()), (["a", "b"], [("in", "a", "b")]))
        self.assertEqual(list(made.patches([])), [[], ["b"], ["a", "b"]])

    def test_what_was_told_is_new(self):
        made = Facts(["a", "b"], [("in", "a", "b")])
        calls = [
            made.regions, made.stated, made.following,
            lambda: made.way(("a", True), ("b", True)),
            lambda: made.least_patch([("a", True)]),
            lambda: made.barred([("a", True), ("b", False)]),
            lambda: list(made.patches([])),
        ]
        for call in calls:
            told = call()
            kept = copy.deepcopy(told)
            self.assertGreater(len(kept), 0)
            told.append("x")
            del told[0]
            self.assertEqual(call(), kept)
        for patch in made.patches([]):
            patch.append("x")
        self.assertEqual(list(made.patches([])), [[], ["b"], ["a", "b"]])

    def test_arguments_stay_as_they_were(self):
        made = Facts(["a", "b", "c"], [("in", "a", "b")])
        claims = [("c", True), ("a", True), ("c", True), ("b", False)]
        self.untouched(made.least_patch, claims)
        self.untouched(made.barred, claims)
        self.untouched(lambda told: list(made.patches(told)), claims)
        self.untouched(made.least_patch, [])
        other = Facts(["a", "b", "c"], [("in", "b", "c")])
        self.assertIsInstance(made & other, Facts)
        self.assertIsInstance(made == other, bool)
        self.assertEqual(made.stated(), [("in", "a", "b")])
        self.assertEqual(other.stated(), [("in", "b", "c")])


class OneRegion(Checked):
    """The edges: one region, and facts of a region with itself."""

    def test_no_facts(self):
        made = Facts(["a"], [])
        self.assertEqual(made.stated(), [])
        self.assertEqual(made.following(), [])
        self.assertEqual(list(made.patches([])), [[], ["a"]])
        self.assertEqual(made.count_patches(), 2)
        self.assertIsNone(made.way(("a", True), ("a", False)))
        self.assertIn(("in", "a", "a"), made)
        self.assertNotIn(("apart", "a", "a"), made)
        self.assertNotIn(("cover", "a", "a"), made)

    def test_a_region_in_itself_says_nothing(self):
        made = Facts(["a"], [("in", "a", "a")])
        self.assertEqual(made.following(), [])
        self.assertEqual(list(made.patches([])), [[], ["a"]])
        self.assertEqual(made.way(("a", True), ("a", True)), [("a", True)])
        self.assertEqual(made, Facts(["a"], []))

    def test_a_region_apart_from_itself_is_empty(self):
        made = Facts(["a"], [("apart", "a", "a")])
        self.assertEqual(made.following(), [("apart", "a", "a")])
        self.assertEqual(list(made.patches([])), [[]])
        self.assertEqual(made.way(("a", True), ("a", False)), [("a", True), ("a", False)])
        self.assertIsNone(made.way(("a", False), ("a", True)))
        self.assertEqual(made.barred([("a", True)]), [("a", True), ("a", False)])

    def test_a_region_that_covers_with_itself_is_all(self):
        made = Facts(["a"], [("cover", "a", "a")])
        self.assertEqual(made.following(), [("cover", "a", "a")])
        self.assertEqual(list(made.patches([])), [["a"]])
        self.assertEqual(made.way(("a", False), ("a", True)), [("a", False), ("a", True)])
        self.assertEqual(made.least_patch([]), ["a"])

    def test_what_follows_from_an_empty_region(self):
        made = Facts(["a", "b"], [("apart", "a", "a")])
        self.assertEqual(made.following(), [("in", "a", "b"), ("apart", "a", "a"), ("apart", "a", "b")])

    def test_what_follows_from_a_region_that_is_all(self):
        made = Facts(["a", "b"], [("cover", "b", "b")])
        self.assertEqual(made.following(), [("in", "a", "b"), ("cover", "a", "b"), ("cover", "b", "b")])


class Order(Checked):
    def test_patches_are_rising_in_the_order_of_the_regions(self):
        made = Facts(["b", "a"], [])
        self.assertEqual(list(made.patches([])), [[], ["a"], ["b"], ["b", "a"]])
        self.assertEqual(made.least_patch([]), [])
        made = Facts(["b", "a"], [("cover", "a", "b")])
        self.assertEqual(made.least_patch([]), ["a"])

    def test_facts_that_follow_are_told_in_the_order_of_the_regions(self):
        made = Facts(["c", "a", "b"], [("in", "b", "c"), ("apart", "b", "a"), ("cover", "c", "a")])
        self.assertEqual(made.following(), [("in", "b", "c"), ("apart", "a", "b"), ("cover", "c", "a")])

    def test_facts_stated_twice_follow_once(self):
        facts = [("apart", "a", "b"), ("apart", "b", "a"), ("apart", "a", "b")]
        self.assertEqual(Facts(["a", "b"], facts).following(), [("apart", "a", "b")])
        self.assertEqual(Facts(["a", "b"], facts).stated(), facts)


class Ways(Checked):
    def test_the_shortest_way_is_the_best(self):
        facts = [("in", "a", "b"), ("in", "b", "c"), ("in", "c", "d"), ("in", "a", "d")]
        made = Facts(["a", "b", "c", "d"], facts)
        self.assertEqual(made.way(("a", True), ("d", True)), [("a", True), ("d", True)])
        self.assertEqual(made.way(("d", False), ("b", False)), [("d", False), ("c", False), ("b", False)])

    def test_of_equal_length_the_first_is_the_best(self):
        for regions, middle in ((["a", "b", "c", "d"], "b"), (["a", "c", "b", "d"], "c")):
            facts = [("in", "a", "c"), ("in", "c", "d"), ("in", "a", "b"), ("in", "b", "d")]
            way = Facts(regions, facts).way(("a", True), ("d", True))
            self.assertEqual(way, [("a", True), (middle, True), ("d", True)])

    def test_false_stands_ahead_of_true(self):
        facts = [("in", "a", "b"), ("in", "b", "c"), ("apart", "a", "d"), ("cover", "d", "c")]
        way = Facts(["a", "b", "d", "c"], facts).way(("a", True), ("c", True))
        self.assertEqual(way, [("a", True), ("b", True), ("c", True)])
        way = Facts(["a", "d", "b", "c"], facts).way(("a", True), ("c", True))
        self.assertEqual(way, [("a", True), ("d", False), ("c", True)])
        facts = [("in", "a", "b"), ("in", "b", "c"), ("apart", "a", "b"), ("cover", "b", "c")]
        way = Facts(["a", "b", "c"], facts).way(("a", True), ("c", True))
        self.assertEqual(way, [("a", True), ("b", False), ("c", True)])

    def test_a_claim_leads_to_itself(self):
        made = Facts(["a", "b"], [])
        self.assertEqual(made.way(("b", False), ("b", False)), [("b", False)])
        self.assertIsNone(made.way(("b", False), ("a", False)))

    def test_each_kind_of_facts(self):
        regions = ["a", "b"]
        expected = {
            "in": [(("a", True), ("b", True)), (("b", False), ("a", False))],
            "apart": [(("a", True), ("b", False)), (("b", True), ("a", False))],
            "cover": [(("a", False), ("b", True)), (("b", False), ("a", True))],
        }
        claims = [(region, lies) for region in regions for lies in (False, True)]
        for kind, pairs in expected.items():
            made = Facts(regions, [(kind, "a", "b")])
            found = [(one, other) for one in claims for other in claims
                     if one != other and made.way(one, other) is not None]
            self.assertEqual(sorted(found), sorted(pairs))


class Claims(Checked):
    def setUp(self):
        self.facts = Facts(["a", "b", "c"], [("in", "a", "b"), ("apart", "b", "c")])

    def test_no_claims(self):
        self.assertEqual(self.facts.least_patch([]), [])
        self.assertIsNone(self.facts.barred([]))
        self.assertEqual(list(self.facts.patches([])), [[], ["c"], ["b"], ["a", "b"]])

    def test_claims_twice(self):
        claims = [("b", True), ("b", True)]
        self.assertEqual(self.facts.least_patch(claims), ["b"])
        self.assertIsNone(self.facts.barred(claims))
        self.assertEqual(list(self.facts.patches(claims)), [["b"], ["a", "b"]])

    def test_contrary_claims(self):
        claims = [("b", True), ("b", False)]
        self.assertIsNone(self.facts.least_patch(claims))
        self.assertEqual(self.facts.barred(claims), [("b", False)])
        self.assertEqual(list(self.facts.patches(claims)), [])

    def test_a_way_of_two_claims_that_stand_far_apart(self):
        made = Facts(["a", "b", "c", "d"], [("in", "a", "b"), ("in", "b", "c"), ("in", "c", "d")])
        claims = [("d", False), ("a", True), ("c", False)]
        self.assertEqual(made.barred(claims), [("a", True), ("b", True), ("c", True)])
        self.assertIsNone(made.least_patch(claims))

    def test_barred_takes_the_first_claim_then_its_shortest_way(self):
        facts = [("apart", "a", "b"), ("in", "a", "d"), ("in", "c", "d"), ("apart", "d", "e")]
        made = Facts(["a", "b", "c", "d", "e"], facts)
        claims = [("e", True), ("c", True), ("a", True), ("b", True)]
        self.assertEqual(made.barred(claims), [("a", True), ("b", False)])
        self.assertEqual(made.barred(claims[:3]), [("a", True), ("d", True), ("e", False)])
        self.assertEqual(made.barred(claims[:2]), [("c", True), ("d", True), ("e", False)])

    def test_of_ways_to_several_contraries_the_first_is_the_best(self):
        facts = [("in", "a", "d"), ("in", "d", "b"), ("in", "a", "c"), ("in", "c", "e")]
        made = Facts(["a", "b", "c", "d", "e"], facts)
        claims = [("a", True), ("b", False), ("e", False)]
        self.assertEqual(made.barred(claims), [("a", True), ("c", True), ("e", True)])

    def test_patches_come_one_by_one(self):
        told = self.facts.patches([("c", False)])
        self.assertEqual(next(told), [])
        self.assertEqual(next(told), ["b"])
        self.assertEqual(next(told), ["a", "b"])
        self.assertRaises(StopIteration, next, told)

    def test_the_list_is_read_when_the_first_is_asked_for(self):
        claims = []
        told = self.facts.patches(claims)
        claims.append(("b", True))
        self.assertEqual(next(told), ["b"])
        claims.append(("a", False))
        self.assertEqual(list(told), [["a", "b"]])


class Contained(Checked):
    def setUp(self):
        self.facts = Facts(["a", "b", "c"], [("in", "a", "b"), ("apart", "b", "c")])

    def test_facts_that_follow(self):
        following = self.facts.following()
        for kind, one, other in all_facts(["a", "b", "c"]):
            expected = (kind, one, other) in following
            self.assertIs((kind, one, other) in self.facts, expected)
            if kind != "in":
                self.assertIs((kind, other, one) in self.facts, expected)
        self.assertIs(("in", "c", "c") in self.facts, True)

    def test_whatever_it_is(self):
        odd = [
            None, True, 1, 1.5, "in", "abc", b"in", [], {}, (), ("in",), ("in", "a"), ("in", "a", "b", "c"),
            ["in", "a", "b"], ("in", "a", "d"), ("in", "d", "d"), ("In", "a", "b"), ("under", "a", "b"),
            ("in", ["a"], "b"), ("in", "a", {"b": 1}), ([], [], []), ({}, "a", "b"), ({"in"}, "a", "b"),
            ("in", 0, 1), ("in", True, False), (None, None, None), (("in",), "a", "b"), ("in", ("a",), "b"),
            Equal(), (Equal(), "a", "b"), ("in", Equal(), "b"), (Equal(), Equal(), Equal()), object(), Facts,
            self.facts, Row([]), ("", "a", "b"), ("in", "", "b"), ("in", "a" * 13, "b"), ("in", "A", "b"),
        ]
        for thing in odd:
            self.assertIs(thing in self.facts, False, thing)


class Joined(Checked):
    def test_facts_of_both(self):
        one = Facts(["a", "b", "c"], [("in", "a", "b"), ("in", "a", "b")])
        facts = [("apart", "c", "b"), ("in", "a", "b"), ("apart", "c", "b"), ("apart", "b", "c")]
        other = Facts(["a", "b", "c"], facts)
        both = one & other
        self.assertIsInstance(both, Facts)
        self.assertEqual(both.regions(), ["a", "b", "c"])
        self.assertEqual(both.stated(), [
            ("in", "a", "b"), ("in", "a", "b"), ("apart", "c", "b"), ("apart", "c", "b"), ("apart", "b", "c"),
        ])
        self.assertEqual(both.following(), [("in", "a", "b"), ("apart", "a", "c"), ("apart", "b", "c")])
        self.assertEqual((other & one).stated(), facts)

    def test_the_least_and_the_most(self):
        empty = Facts(["a"], [])
        self.assertEqual((empty & empty).stated(), [])
        many = Facts(["a", "b"], [("in", "a", "b")] * 1200)
        self.assertEqual((many & many).stated(), many.stated())
        half = Facts(["a", "b"], [("in", "b", "a")] * 599)
        many = Facts(["a", "b"], [("in", "a", "b")] * 601)
        self.assertEqual(len((many & half).stated()), 1200)


class Equality(Checked):
    def test_the_same_facts_follow(self):
        one = Facts(["a", "b", "c"], [("in", "a", "b"), ("in", "b", "c")])
        other = Facts(["a", "b", "c"], [("in", "b", "c"), ("in", "a", "c"), ("in", "a", "b"), ("in", "a", "b")])
        self.assertIs(one == other, True)
        self.assertIs(one != other, False)
        self.assertIs(one == Facts(["a", "b", "c"], [("in", "a", "b")]), False)
        self.assertIs(one == Facts(["a", "c", "b"], one.stated()), False)
        self.assertIs(one == Facts(["a", "b", "c", "d"], one.stated()), False)

    def test_other_regions_or_another_order(self):
        for one, other in ((["a"], ["b"]), (["a", "b"], ["b", "a"]), (["a"], ["a", "b"]), (["b"], ["a", "b"])):
            self.assertIs(Facts(one, []) == Facts(other, []), False)
            self.assertIs(Facts(other, []) == Facts(one, []), False)

    def test_facts_that_follow_without_ways(self):
        # An empty region lies in every other one, though no way says so.
        one = Facts(["a", "b"], [("apart", "a", "a")])
        other = Facts(["a", "b"], [("apart", "a", "a"), ("in", "a", "b"), ("apart", "a", "b")])
        self.assertIs(one == other, True)
        self.assertIs(other == one, True)

    def test_whatever_it_is(self):
        facts = Facts(["a"], [])
        for thing in (None, True, 1, 1.5, "a", [], ["a"], (), {}, {"a": []}, Row([]), object(), Facts, Exception()):
            self.assertIs(facts == thing, False)
            self.assertIs(facts != thing, True)


class Counted(Checked):
    def test_the_number_of_patches(self):
        self.assertEqual(Facts(LETTERS[:3], []).count_patches(), 8)
        self.assertEqual(Facts(LETTERS[:3], [("in", "a", "b"), ("apart", "b", "c")]).count_patches(), 4)
        self.assertEqual(Facts(LETTERS[:16], []).count_patches(), 65536)
        chain = [("in", one, other) for one, other in zip(LETTERS[:15], LETTERS[1:16])]
        self.assertEqual(Facts(LETTERS[:16], chain).count_patches(), 17)


if __name__ == "__main__":
    unittest.main()
