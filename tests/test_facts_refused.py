"""Facts: what is refused, with which error and which fields."""

import unittest

from coatrows.errors import Contradiction, InvalidClaim, InvalidFact, InvalidRegion, TooMany
from coatrows.facts import Facts
from coatrows.rows import Row
from tests.checking import NO_LISTS, NO_NAMES, Checked, Equal

NAMES = [one + other for one in "abcde" for other in "abcde"]


class Regions(Checked):
    def test_no_list(self):
        for thing in NO_LISTS:
            self.refused(InvalidRegion, {"index": None}, Facts, thing, [])

    def test_too_few_or_too_many(self):
        self.refused(InvalidRegion, {"index": None}, Facts, [], [])
        self.refused(InvalidRegion, {"index": None}, Facts, NAMES, [])
        self.refused(InvalidRegion, {"index": None}, Facts, ["A"] * 25, [])
        self.assertEqual(Facts(NAMES[:24], []).regions(), NAMES[:24])
        self.refused(InvalidRegion, {"index": 0}, Facts, ["A"] * 24, [])

    def test_no_names(self):
        for thing in NO_NAMES + [Equal()]:
            self.refused(InvalidRegion, {"index": 0}, Facts, [thing], [])
            self.refused(InvalidRegion, {"index": 2}, Facts, ["a", "b", thing, "b", thing], [])

    def test_names_twice(self):
        self.refused(InvalidRegion, {"index": 1}, Facts, ["a", "a", "A"], [])
        self.refused(InvalidRegion, {"index": 3}, Facts, ["a", "b", "c", "b", "a"], [])

    def test_letters(self):
        for letter in "abcdefghijklmnopqrstuvwxyz":
            self.assertEqual(Facts([letter, letter * 12], []).regions(), [letter, letter * 12])
        for at in range(32, 127):
            if not 97 <= at <= 122:
                self.refused(InvalidRegion, {"index": 1}, Facts, ["a", "a" + chr(at)], [])

    def test_regions_ahead_of_facts(self):
        self.refused(InvalidRegion, {"index": 1}, Facts, ["a", "a"], None)


class FactsPassed(Checked):
    def test_no_list(self):
        for thing in NO_LISTS:
            self.refused(InvalidFact, {"index": None}, Facts, ["a"], thing)

    def test_too_many(self):
        self.assertEqual(len(Facts(["a"], [("in", "a", "a")] * 1200).stated()), 1200)
        self.refused(InvalidFact, {"index": None}, Facts, ["a"], [("in", "a", "a")] * 1201)
        self.refused(InvalidFact, {"index": None}, Facts, ["a"], [1] * 1201)
        self.refused(InvalidFact, {"index": 1199}, Facts, ["a"], [("in", "a", "a")] * 1199 + [1])

    def test_no_facts(self):
        odd = NO_NAMES + [
            "in", "a in b", ("in",), ("in", "a"), ("in", "a", "b", "b"), ["in", "a", "b"], ("a", "in", "b"),
            ("IN", "a", "b"), ("on", "a", "b"), ("", "a", "b"), (None, "a", "b"), (["in"], "a", "b"),
            ("in", "a", "c"), ("in", "c", "a"), ("in", "a", None), ("in", True, "b"), ("in", 0, 1),
            ("in", ["a"], "b"), ("in", "a", {"b": 1}), ("in", "a", ("b",)), ({}, {}, {}), ("in", 1.5, "b"),
            Equal(), (Equal(), "a", "b"), ("in", Equal(), "b"), ("in", "a", Equal()),
        ]
        for thing in odd:
            self.refused(InvalidFact, {"index": 0}, Facts, ["a", "b"], [thing, thing])
            self.refused(InvalidFact, {"index": 1}, Facts, ["a", "b"], [("in", "a", "b"), thing, thing])

    def test_wrong_facts_ahead_of_a_contradiction(self):
        facts = [("apart", "a", "a"), ("cover", "a", "a"), ("in", "a", "b")]
        self.refused(InvalidFact, {"index": 2}, Facts, ["a"], facts)


class Contradictions(Checked):
    def test_one_region(self):
        there, back = [("a", True), ("a", False)], [("a", False), ("a", True)]
        for facts in ([("apart", "a", "a"), ("cover", "a", "a")], [("cover", "a", "a"), ("apart", "a", "a")]):
            self.refused(Contradiction, {"there": there, "back": back}, Facts, ["a"], facts)

    def test_the_first_region_and_the_best_ways(self):
        facts = [("apart", "c", "c"), ("cover", "c", "c"), ("in", "b", "c"), ("in", "c", "b")]
        told = {
            "there": [("b", True), ("c", True), ("c", False), ("b", False)],
            "back": [("b", False), ("c", False), ("c", True), ("b", True)],
        }
        self.refused(Contradiction, told, Facts, ["a", "b", "c"], facts)
        told = {"there": [("c", True), ("c", False)], "back": [("c", False), ("c", True)]}
        self.refused(Contradiction, told, Facts, ["a", "c", "b"], facts)

    def test_four_facts_about_two_regions(self):
        facts = [("in", "a", "b"), ("in", "b", "a"), ("apart", "a", "b"), ("cover", "a", "b")]
        told = {
            "there": [("a", True), ("b", False), ("a", False)],
            "back": [("a", False), ("b", False), ("a", True)],
        }
        self.refused(Contradiction, told, Facts, ["a", "b"], facts)
        for left in range(4):
            Facts(["a", "b"], facts[:left] + facts[left + 1:])

    def test_a_way_one_way_only_is_none(self):
        made = Facts(["a", "b"], [("apart", "a", "a"), ("cover", "b", "b")])
        self.assertEqual(list(made.patches([])), [["b"]])


class Claims(Checked):
    ODD = NO_NAMES + [
        "a", ("a",), ("a", True, True), ["a", True], ("a", 1), ("a", 0), ("a", None), ("a", "True"), ("a", 1.0),
        ("a", []), ("c", True), ("", True), (None, True), (0, True), (["a"], True), ({}, False), (("a",), True),
        (True, "a"), ("a", Equal()), (Equal(), True), Equal(), ("A", True), (1.5, False),
    ]

    def setUp(self):
        self.facts = Facts(["a", "b"], [("in", "a", "b")])

    def calls(self):
        return [self.facts.least_patch, self.facts.barred, lambda claims: list(self.facts.patches(claims))]

    def test_no_list(self):
        for call in self.calls():
            for thing in NO_LISTS + [("a", True)]:
                self.refused(InvalidClaim, {"index": None}, call, thing)

    def test_no_claims(self):
        for call in self.calls():
            for thing in self.ODD:
                self.refused(InvalidClaim, {"index": 0}, call, [thing])
                claims = [("a", True), ("b", False), thing, thing]
                self.refused(InvalidClaim, {"index": 2}, call, claims)

    def test_patches_refuses_when_the_first_is_asked_for(self):
        for claims, index in ((None, None), ([("a", True), 1], 1)):
            told = self.facts.patches(claims)
            self.refused(InvalidClaim, {"index": index}, next, told)

    def test_way(self):
        for thing in self.ODD:
            self.refused(InvalidClaim, {"index": 0}, self.facts.way, thing, ("a", True))
            self.refused(InvalidClaim, {"index": 0}, self.facts.way, thing, thing)
            self.refused(InvalidClaim, {"index": 1}, self.facts.way, ("a", True), thing)


class Joined(Checked):
    def setUp(self):
        self.facts = Facts(["a", "b"], [("in", "a", "b")] * 601)

    def joined(self, other):
        return self.facts & other

    def test_other_regions(self):
        things = [
            None, True, 1, "a", [], ["a", "b"], (), {}, object(), Row([]), Facts(["b", "a"], []), Facts(["a"], []),
            Facts(["a", "b", "c"], []), Facts(["a", "c"], []),
        ]
        for thing in things:
            self.refused(InvalidRegion, {"index": None}, self.joined, thing)

    def test_too_many(self):
        other = Facts(["a", "b"], [("in", "b", "a")] * 600)
        self.refused(TooMany, {"limit": 1200}, self.joined, other)
        other = Facts(["b", "a"], [("in", "b", "a")] * 600)
        self.refused(InvalidRegion, {"index": None}, self.joined, other)

    def test_too_many_ahead_of_a_contradiction(self):
        one = Facts(["a"], [("apart", "a", "a")] * 1200)
        other = Facts(["a"], [("cover", "a", "a")])
        self.refused(TooMany, {"limit": 1200}, lambda: one & other)

    def test_contradiction(self):
        one = Facts(["a", "b"], [("in", "a", "b"), ("in", "b", "a")])
        other = Facts(["a", "b"], [("apart", "a", "b"), ("cover", "a", "b")])
        told = {
            "there": [("a", True), ("b", False), ("a", False)],
            "back": [("a", False), ("b", False), ("a", True)],
        }
        self.refused(Contradiction, told, lambda: one & other)
        self.refused(Contradiction, told, lambda: other & one)
        self.assertEqual(one.stated(), [("in", "a", "b"), ("in", "b", "a")])


class Counted(Checked):
    def test_too_many_regions(self):
        for many in (17, 24):
            self.refused(TooMany, {"limit": 16}, Facts(NAMES[:many], []).count_patches)
        facts = [("apart", name, name) for name in NAMES[:17]]
        self.refused(TooMany, {"limit": 16}, Facts(NAMES[:17], facts).count_patches)


if __name__ == "__main__":
    unittest.main()
