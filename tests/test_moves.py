"""Covered deeds, and steps between rows of puts and wipes."""

import unittest

from coatrows.comparing import alike
from coatrows.errors import InvalidDeed, InvalidNumber, UnknownRegion
from coatrows.facts import Facts
from coatrows.moves import covers, moves, moves_hold
from coatrows.rows import Row
from tests.chance import REGIONS
from tests.checking import NO_INDICES_OF_THREE, NO_LISTS, Checked, Equal

ABC = ["a", "b", "c"]
FACTS = Facts(ABC, [("in", "a", "b"), ("apart", "b", "c")])
FREE = Facts(ABC, [])
EMPTY = Row([])
PAINTS = Row([("put", "blue", "a"), ("put", "red", "b")])
RED = Row([("put", "red", "b")])
FILL = Row([("wipe", "z"), ("put", "x", "a"), ("fill", "x", "a"), ("turn", "x", "y")])
TURN = Row([("turn", "x", "x"), ("wipe", "y")])
STRANGE = Row([("wipe", "a"), ("put", "x", "z"), ("wipe", "y")])


class Covers(Checked):
    def told(self, facts, deeds):
        return [self.fresh(covers, facts, Row(deeds), at) for at in range(len(deeds))]

    def test_one_later_deed(self):
        self.assertEqual(self.told(FACTS, PAINTS.deeds()), [[1], None])
        self.assertEqual(self.told(FACTS, PAINTS.deeds()[::-1]), [None, None])
        self.assertEqual(self.told(FREE, [("put", "x", "a"), ("wipe", "b"), ("put", "y", "a"), ("wipe", "a")]), [
            [2], None, [3], None,
        ])
        self.assertEqual(covers(index=0, row=PAINTS, facts=FACTS), [1])

    def test_a_deed_ahead_covers_nothing(self):
        self.assertEqual(self.told(FREE, [("wipe", "a"), ("put", "x", "b")]), [None, None])
        self.assertEqual(self.told(FACTS, [("wipe", "b"), ("put", "x", "a"), ("wipe", "c")]), [None, None, None])

    def test_no_patch_in_the_region(self):
        nothing = Facts(ABC, [("apart", "a", "a"), ("in", "b", "a")])
        deeds = [("put", "x", "a"), ("wipe", "b"), ("put", "x", "c"), ("put", "y", "a")]
        self.assertEqual(self.told(nothing, deeds), [[], [], None, []])

    def test_two_later_deeds(self):
        halves = Facts(ABC, [("cover", "b", "c")])
        self.assertEqual(self.told(halves, [("put", "x", "a"), ("wipe", "c"), ("put", "x", "b")]), [[1, 2], None, None])
        deeds = [("wipe", "a"), ("wipe", "c"), ("wipe", "c"), ("wipe", "b"), ("put", "x", "b"), ("wipe", "c")]
        self.assertEqual(self.told(halves, deeds), [[1, 3], [2], [5], [4], None, None])
        # The tuple with the lesser first index is the least one, and one deed alone is told ahead of two.
        self.assertEqual(self.told(halves, [("wipe", "a"), ("wipe", "b"), ("wipe", "c"), ("wipe", "a")])[0], [3])

    def test_the_halves_need_not_be_told_by_one_fact(self):
        ring = Facts(["a", "b", "c", "d"], [("cover", "b", "c"), ("in", "c", "d")])
        self.assertEqual(covers(ring, Row([("wipe", "a"), ("wipe", "d"), ("wipe", "b")]), 0), [1, 2])
        # Of the patches of a region, neither half need contain all.
        self.assertIsNone(covers(FREE, Row([("wipe", "a"), ("wipe", "b"), ("wipe", "c")]), 0))

    def test_all_patches_lie_in_a_region(self):
        whole = Facts(ABC, [("cover", "c", "c")])
        self.assertEqual(self.told(whole, [("put", "x", "a"), ("wipe", "b"), ("put", "x", "c"), ("wipe", "a")]), [
            [2], [2], None, None,
        ])
        both = Facts(["a", "b"], [("cover", "a", "a"), ("apart", "b", "b")])
        self.assertEqual(self.told(both, [("wipe", "b"), ("wipe", "a"), ("put", "x", "a")]), [[], [2], None])

    def test_one_region_and_thirty_deeds(self):
        one = Facts(["a"], [])
        self.assertEqual(self.told(one, [("wipe", "a")]), [None])
        self.assertEqual(self.told(one, [("wipe", "a")] * 30), [[at + 1] for at in range(29)] + [None])

    def test_no_index(self):
        row = Row(PAINTS.deeds() + [("wipe", "c")])
        for thing in NO_INDICES_OF_THREE:
            self.refused(InvalidNumber, {"number": thing}, covers, FACTS, row, thing)
        self.refused(InvalidNumber, {"number": 0}, covers, FACTS, EMPTY, 0)

    def test_other_rows(self):
        self.refused(InvalidDeed, {"index": 2}, covers, FACTS, FILL, -1)
        self.refused(InvalidDeed, {"index": 0}, covers, FACTS, TURN, 0)
        self.refused(UnknownRegion, {"region": "z"}, covers, FACTS, STRANGE, None)


class Moves(Checked):
    def lead(self, facts, one, other):
        steps = self.fresh(moves, facts, one, other)
        self.assertIs(steps is not None, alike(facts, one, other))
        if steps is not None:
            self.assertLessEqual(len(steps), len(one) * len(other) + len(one) + len(other))
            self.assertTrue(self.untouched(moves_hold, facts, one, other, steps))
        return steps

    def test_ordinary(self):
        self.assertIsNotNone(self.lead(FACTS, PAINTS, RED))
        self.assertIsNotNone(self.lead(FACTS, RED, PAINTS))
        self.assertIsNone(self.lead(FREE, PAINTS, RED))
        self.assertIsNone(self.lead(FACTS, PAINTS, Row(PAINTS.deeds()[::-1])))
        self.assertIsNone(self.lead(FACTS, RED, Row([("wipe", "b")])))
        self.assertIsNotNone(moves(other=RED, facts=FACTS, one=PAINTS))

    def test_no_deeds(self):
        self.assertEqual(self.lead(FACTS, EMPTY, EMPTY), [])
        self.assertIsNone(self.lead(FACTS, EMPTY, RED))
        self.assertIsNone(self.lead(FACTS, RED, EMPTY))
        nothing = Facts(ABC, [("apart", "b", "b")])
        self.assertEqual(self.lead(nothing, RED, EMPTY), [("take",)])
        self.assertEqual(self.lead(nothing, EMPTY, RED), [("lay", ("put", "red", "b"))])

    def test_exchanges(self):
        row = Row([("put", "x", "a"), ("put", "x", "b"), ("wipe", "c")])
        self.assertIsNotNone(self.lead(FACTS, row, Row([("wipe", "c"), ("put", "x", "b"), ("put", "x", "a")])))
        self.assertIsNone(self.lead(FREE, row, Row([("wipe", "c"), ("put", "x", "b"), ("put", "x", "a")])))
        self.assertIsNotNone(self.lead(FREE, row, Row([("put", "x", "b"), ("put", "x", "a"), ("wipe", "c")])))
        self.assertIsNotNone(self.lead(FREE, row, row))

    def test_two_puts_in_place_of_one(self):
        halves = Facts(ABC, [("cover", "b", "c")])
        one = Row([("put", "x", "a"), ("put", "x", "b"), ("put", "x", "c")])
        self.assertIsNotNone(self.lead(halves, one, Row([("put", "x", "c"), ("put", "x", "b")])))
        self.assertIsNone(self.lead(FREE, one, Row([("put", "x", "c"), ("put", "x", "b")])))

    def test_thirty_deeds_each(self):
        facts = Facts(REGIONS, [("in", region, REGIONS[-1]) for region in REGIONS])
        many = Row([("put", "x", region) for region in REGIONS] + [("put", "y", REGIONS[-1])] * 6)
        other = Row([("wipe", REGIONS[at % 24]) for at in range(29)] + [("put", "y", REGIONS[-1])])
        self.assertIsNotNone(self.lead(facts, many, other))
        self.assertIsNotNone(self.lead(facts, Row([("put", "y", REGIONS[-1])]), other))
        self.assertIsNone(self.lead(Facts(REGIONS, []), many, other))

    def test_other_rows(self):
        for call in (moves, lambda *rows: moves_hold(*rows, None)):
            self.refused(InvalidDeed, {"index": 2}, call, FACTS, FILL, TURN)
            self.refused(InvalidDeed, {"index": 0}, call, FACTS, TURN, STRANGE)
            self.refused(UnknownRegion, {"region": "z"}, call, FACTS, STRANGE, TURN)
            self.refused(InvalidDeed, {"index": 0}, call, FACTS, PAINTS, TURN)
            self.refused(InvalidDeed, {"index": 2}, call, FACTS, PAINTS, FILL)
            self.refused(UnknownRegion, {"region": "z"}, call, FACTS, PAINTS, STRANGE)
            self.refused(UnknownRegion, {"region": "y"}, call, FACTS, Row([("wipe", "y")]), Row([("wipe", "z")]))


class MovesHold(Checked):
    def hold(self, one, other, steps, facts=FACTS):
        told = self.untouched(moves_hold, facts, Row(one), Row(other), steps)
        self.assertIs(type(told), bool)
        return told

    def test_take(self):
        self.assertTrue(self.hold(PAINTS.deeds(), RED.deeds(), [("take",)]))
        self.assertFalse(self.hold(PAINTS.deeds(), RED.deeds(), [("take",)], FREE))
        self.assertFalse(self.hold(PAINTS.deeds(), [], [("take",), ("take",)]))
        self.assertFalse(self.hold([], [], [("take",)]))
        self.assertTrue(moves_hold(told=[("take",)], other=RED, one=PAINTS, facts=FACTS))

    def test_lay(self):
        self.assertTrue(self.hold(RED.deeds(), PAINTS.deeds(), [("lay", ("put", "blue", "a"))]))
        self.assertTrue(self.hold(RED.deeds(), [("wipe", "a")] + RED.deeds(), [("lay", ("wipe", "a"))]))
        self.assertFalse(self.hold(RED.deeds(), [("wipe", "c")] + RED.deeds(), [("lay", ("wipe", "c"))]))
        self.assertFalse(self.hold(RED.deeds(), RED.deeds(), [("lay", ("put", "blue", "a"))]))
        self.assertFalse(self.hold(RED.deeds(), PAINTS.deeds(), [("lay", ("put", "red", "a"))]))
        self.assertFalse(self.hold([], [("wipe", "a")], [("lay", ("wipe", "a"))]))

    def test_swap(self):
        one, other = [("put", "x", "a"), ("put", "y", "c")], [("put", "y", "c"), ("put", "x", "a")]
        self.assertTrue(self.hold(one, other, [("swap", 0)]))
        self.assertFalse(self.hold(one, other, [("swap", 0)], FREE))
        self.assertFalse(self.hold(one, one, [("swap", 0)]))
        self.assertTrue(self.hold(one, one, [("swap", 0), ("swap", 0)]))
        same = [("put", "x", "a"), ("put", "x", "b"), ("wipe", "a"), ("wipe", "b"), ("put", "y", "b")]
        self.assertTrue(self.hold(same[:2], same[1::-1], [("swap", 0)], FREE))
        self.assertTrue(self.hold(same[2:4], same[3:1:-1], [("swap", 0)], FREE))
        self.assertFalse(self.hold(same[1:3], same[2:0:-1], [("swap", 0)], FREE))
        self.assertFalse(self.hold([same[1], same[4]], [same[4], same[1]], [("swap", 0)], FREE))

    def test_swap_under_later_deeds(self):
        one, other = ("put", "x", "a"), ("put", "y", "b")
        for later, allowed in ((("wipe", "a"), True), (("wipe", "b"), True), (("wipe", "c"), False)):
            self.assertIs(self.hold([one, other, later], [other, one, later], [("swap", 0)], FREE), allowed)
            # What stands ahead of the two does not hide them.
            self.assertFalse(self.hold([later, one, other], [later, other, one], [("swap", 1)], FREE))
        halves = Facts(ABC, [("cover", "b", "c")])
        row = [("put", "x", "a"), ("put", "y", "a"), ("wipe", "b"), ("wipe", "c")]
        self.assertTrue(self.hold(row, [row[1], row[0]] + row[2:], [("swap", 0)], halves))
        self.assertFalse(self.hold(row[:3], [row[1], row[0], row[2]], [("swap", 0)], halves))

    def test_no_steps(self):
        self.assertTrue(self.hold(PAINTS.deeds(), PAINTS.deeds(), []))
        self.assertFalse(self.hold(PAINTS.deeds(), RED.deeds(), []))
        self.assertFalse(self.hold([], RED.deeds(), []))

    def test_rows_on_the_way_of_any_length(self):
        lays, takes = [("lay", ("wipe", "a"))] * 100, [("take",)] * 100
        self.assertTrue(self.hold(RED.deeds(), RED.deeds(), lays + takes))
        self.assertFalse(self.hold(RED.deeds(), RED.deeds(), lays + takes[1:]))
        full = [("wipe", "a")] * 30
        self.assertTrue(self.hold(full, full, lays[:1] + [("swap", 29)] + takes[:1]))
        self.assertFalse(self.hold(full, full, lays[:1] + [("swap", 30)] + takes[:1]))

    def test_no_list(self):
        for thing in NO_LISTS + [Equal(), (("take",),), "take"]:
            self.assertFalse(moves_hold(FACTS, PAINTS, RED, thing))
            self.assertFalse(moves_hold(FACTS, EMPTY, EMPTY, thing))

    def test_no_steps_in_a_list(self):
        row = Row([("put", "x", "b"), ("wipe", "b"), ("wipe", "b")])
        wrong = [
            None, True, 0, 1.5, "", "take", b"take", [], ["take"], (), {}, {"take"}, object(), Equal(), "swap",
            ("take", 0), ("take", None), ("take", ()), ("Take",), ("take ",), (("take",),), [("take",)], (True,), (Equal(),),
            ("lay",), ("swap",), ("put",), (Equal(), 0), (None, 0), (["swap"], 0), ("Swap", 0), ("exchange", 0),
            ["swap", 1], ("swap", 1, 2), ("Swap", 1), ("take", 1), ("", 1), ("swap", (1,)), ["lay", ("wipe", "a")], ("lay", "wipe", "a"),
            ("put", "x", "a"), ("wipe", "a"), ("lay", ("wipe", "a"), 0), ("", ("wipe", "a")),
        ]
        for thing in NO_INDICES_OF_THREE + [2]:
            wrong.append(("swap", thing))
        for thing in (
            None, True, 1, 1.5, "wipe", "wi", [], (), {}, Equal(), ["wipe", "a"], ("wipe",), ("wipe", "z"), ("wipe", "A"),
            ("wipe", None), ("wipe", ["a"]), ("wipe", True), ("wipe", Equal()), ("wipe", "a", "b"), ("put", "a"),
            ("put", "x", "z"), ("put", None, "a"), ("put", "X", "a"), ("put", "x", ("a",)), ["put", "x", "a"],
            ("fill", "x", "a"), ("turn", "x", "y"), ("turn", "x", "a"), ("lay", ("wipe", "a")), (Equal(), "a"), ("Put", "x", "a"),
        ):
            wrong.append(("lay", thing))
            self.assertIs(moves_hold(FACTS, row, row, [("lay", thing), ("take",)]), False, thing)
        for step in wrong:
            for steps in ([step], [("swap", 1), step], [step, ("swap", 1)]):
                self.assertIs(moves_hold(FACTS, row, row, steps), False, step)
                self.assertIs(moves_hold(FACTS, row, Row(row.deeds()[1:]), steps), False, step)
        self.assertTrue(moves_hold(FACTS, row, row, [("swap", 1)]))


if __name__ == "__main__":
    unittest.main()
