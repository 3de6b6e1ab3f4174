"""Sheets that are painted: items, rows, undo, trials and what is learned."""

import unittest

from coatrows.errors import Contradiction, InvalidColour, InvalidDeed, InvalidFact, NothingToUndo, TooMany, UnknownRegion
from coatrows.facts import Facts
from coatrows.outcomes import colours_on
from coatrows.rows import Row
from coatrows.sheet import Sheet
from tests.chance import REGIONS
from tests.checking import NO_NAMES, Checked, Equal

ABC = ["a", "b", "c"]
STATED = [("in", "a", "b"), ("apart", "b", "c")]
FACTS = Facts(ABC, STATED)
ROW = Row([("put", "red", "b"), ("put", "blue", "a"), ("fill", "green", "c")])
EMPTY = Row([])
NO_REGIONS = NO_NAMES + [Equal(), "d", "ab", "red"]


def put(sheet, region, colour):
    sheet[region] = colour


def add(sheet, row):
    sheet += row
    return sheet


def state(sheet):
    """Return all that a sheet shows of itself."""
    return sheet.row.deeds(), sheet.facts.regions(), sheet.facts.stated(), [sheet[region] for region in ABC]


class Sheets(Checked):
    def kept(self, sheet, error, fields, call, *told):
        """Check that a call is refused and that the sheet stays as it is."""
        before = state(sheet)
        self.refused(error, fields, call, *told)
        self.assertEqual(state(sheet), before)


class Items(Sheets):
    def test_a_new_sheet_is_blank(self):
        sheet = Sheet(facts=FACTS)
        self.assertEqual([sheet[region] for region in ABC], [[None], [None], [None]])
        self.assertEqual((sheet.row, sheet.facts), (EMPTY, FACTS))

    def test_colours_and_wipes(self):
        sheet = Sheet(FACTS)
        sheet["b"] = "red"
        sheet["a"] = "blue"
        self.assertEqual([sheet[region] for region in ABC], [["blue"], ["blue", "red"], [None]])
        sheet["a"] = None
        self.assertEqual([sheet[region] for region in ABC], [[None], [None, "red"], [None]])
        sheet["c"] = "b"
        sheet["b"] = "zz"
        self.assertEqual([sheet[region] for region in ABC], [["zz"], ["zz"], ["b"]])
        self.assertEqual(sheet.row.deeds(), [
            ("put", "red", "b"), ("put", "blue", "a"), ("wipe", "a"), ("put", "b", "c"), ("put", "zz", "b"),
        ])

    def test_regions_that_are_empty_or_everything(self):
        sheet = Sheet(Facts(ABC, [("apart", "a", "a"), ("cover", "b", "b")]))
        sheet["a"] = "red"
        self.assertEqual([sheet[region] for region in ABC], [[], [None], [None]])
        sheet["b"] = "blue"
        self.assertEqual([sheet[region] for region in ABC], [[], ["blue"], ["blue"]])

    def test_one_region(self):
        sheet = Sheet(Facts(["red"], []))
        sheet["red"] = "red"
        self.assertEqual(sheet["red"], ["red"])

    def test_no_region(self):
        sheet = add(Sheet(FACTS), ROW)
        for thing in NO_REGIONS:
            self.kept(sheet, UnknownRegion, {"region": thing}, lambda: sheet[thing])
            self.kept(sheet, UnknownRegion, {"region": thing}, put, sheet, thing, "red")
            self.kept(sheet, UnknownRegion, {"region": thing}, put, sheet, thing, 1)

    def test_no_colour(self):
        sheet = add(Sheet(FACTS), ROW)
        for thing in NO_NAMES + [Equal()]:
            if thing is not None:
                self.kept(sheet, InvalidColour, {"colour": thing}, put, sheet, "a", thing)

    def test_thirty_deeds(self):
        sheet = Sheet(FACTS)
        for at in range(30):
            sheet[ABC[at % 3]] = "red" if at % 2 else None
        self.assertEqual(len(sheet.row), 30)
        self.kept(sheet, TooMany, {"limit": 30}, put, sheet, "a", "red")
        self.kept(sheet, TooMany, {"limit": 30}, put, sheet, "a", None)
        self.kept(sheet, InvalidColour, {"colour": "A"}, put, sheet, "a", "A")
        self.kept(sheet, UnknownRegion, {"region": "z"}, put, sheet, "z", "A")
        self.kept(sheet, UnknownRegion, {"region": "z"}, put, sheet, "z", "red")
        sheet.undo()
        sheet["a"] = "blue"
        self.assertEqual(len(sheet.row), 30)

    def test_what_an_item_told_may_be_changed(self):
        sheet = add(Sheet(FACTS), ROW)
        self.assertEqual(self.fresh(lambda: sheet["b"]), ["blue", "red"])

    def test_no_loops(self):
        sheet = add(Sheet(FACTS), ROW)
        for call in (iter, list, tuple, sorted, set, reversed, lambda thing: [at for at in thing], lambda thing: [*thing]):
            with self.assertRaises(TypeError):
                call(sheet)
        with self.assertRaises(TypeError):
            for _ in sheet:
                pass


class Rows(Sheets):
    def test_a_row_is_one_thing(self):
        sheet = same = Sheet(FACTS)
        sheet += ROW
        self.assertIs(sheet, same)
        sheet["c"] = "x"
        self.assertEqual(sheet.row.deeds(), ROW.deeds() + [("put", "x", "c")])
        self.assertEqual([sheet[region] for region in ABC], [["blue"], ["blue", "red"], ["x"]])
        sheet.undo()
        self.assertEqual(sheet.row, ROW)
        sheet.undo()
        self.assertEqual(sheet.row, EMPTY)
        self.refused(NothingToUndo, {}, sheet.undo)

    def test_a_row_without_deeds_is_a_thing(self):
        sheet = Sheet(FACTS)
        sheet["a"] = "red"
        sheet += EMPTY
        sheet.undo()
        self.assertEqual(sheet["a"], ["red"])
        sheet.undo()
        self.assertEqual(sheet["a"], [None])
        self.refused(NothingToUndo, {}, sheet.undo)

    def test_fills_and_turns(self):
        sheet = Sheet(FACTS)
        sheet += Row([("fill", "x", "b"), ("wipe", "a"), ("fill", "y", "b"), ("turn", "x", "z")])
        self.assertEqual([sheet[region] for region in ABC], [["y"], ["y", "z"], [None]])
        sheet += sheet.row
        self.assertEqual(len(sheet.row), 8)

    def test_refused(self):
        sheet = add(Sheet(FACTS), ROW)
        for thing in (None, True, 1, 1.5, "", "wipe a", [], [("wipe", "a")], (), ("wipe", "a"), {}, Equal(), Row, sheet):
            self.kept(sheet, InvalidDeed, {"index": None}, add, sheet, thing)
            self.kept(sheet, InvalidDeed, {"index": None}, sheet.tried, thing)
        for strange in ([("wipe", "a"), ("put", "x", "z"), ("wipe", "y")], [("turn", "z", "z"), ("fill", "a", "z")] * 15):
            self.kept(sheet, UnknownRegion, {"region": "z"}, add, sheet, Row(strange))
            self.kept(sheet, UnknownRegion, {"region": "z"}, sheet.tried, Row(strange))
        for many in (28, 30):
            self.kept(sheet, TooMany, {"limit": 30}, add, sheet, Row([("wipe", "a")] * many))
            self.kept(sheet, TooMany, {"limit": 30}, sheet.tried, Row([("wipe", "a")] * many))
        sheet += Row([("wipe", "a")] * 27)
        self.assertEqual(len(sheet.row), 30)
        self.kept(sheet, TooMany, {"limit": 30}, add, sheet, Row([("turn", "x", "x")]))
        self.assertEqual(add(sheet, EMPTY).tried(EMPTY), [[None], [None, "red"], ["green"]])

    def test_the_deeds_may_be_done_again(self):
        # A row that is done, and one that was read, stay as they are.
        sheet = Sheet(FACTS)
        row = Row([("put", "x", "a")])
        sheet += row
        read = sheet.row
        sheet += row
        sheet["b"] = None
        self.assertEqual((row.deeds(), read.deeds()), ([("put", "x", "a")], [("put", "x", "a")]))
        sheet.undo()
        sheet.undo()
        self.assertEqual(sheet.row, read)

    def test_what_was_read_stays(self):
        sheet = add(Sheet(FACTS), ROW)
        row, facts = sheet.row, sheet.facts
        row.deeds().clear()
        facts.stated().clear()
        facts.regions().clear()
        sheet["a"] = None
        sheet.learn(("cover", "b", "c"))
        self.assertEqual((row, facts.stated()), (ROW, STATED))
        self.assertEqual((len(sheet.row), sheet.facts.stated()), (4, STATED + [("cover", "b", "c")]))


class Tried(Sheets):
    def test_ordinary(self):
        sheet = Sheet(FACTS)
        sheet["b"] = "red"
        before = state(sheet)
        told = self.fresh(sheet.tried, Row([("put", "blue", "a"), ("fill", "x", "c")]))
        self.assertEqual(told, [["blue"], ["blue", "red"], ["x"]])
        self.assertEqual(sheet.tried(row=EMPTY), [["red"], ["red"], [None]])
        self.assertEqual(state(sheet), before)
        sheet.undo()
        self.refused(NothingToUndo, {}, sheet.undo)

    def test_it_tells_what_the_items_would_be(self):
        sheet = Sheet(Facts(["c", "a", "b"], STATED + [("apart", "a", "a")]))
        sheet += ROW
        more = Row([("turn", "red", "x"), ("wipe", "c")])
        told = sheet.tried(more)
        sheet += more
        self.assertEqual(told, [sheet["c"], sheet["a"], sheet["b"]])
        self.assertEqual(told, [[None], [], ["x"]])


class Undo(Sheets):
    def test_nothing_to_undo(self):
        sheet = Sheet(FACTS)
        self.refused(NothingToUndo, {}, sheet.undo)
        sheet["a"] = "red"
        self.assertIsNone(sheet.undo())
        self.refused(NothingToUndo, {}, sheet.undo)
        self.assertEqual(state(sheet), state(Sheet(FACTS)))

    def test_what_was_refused_is_no_thing(self):
        sheet = Sheet(FACTS)
        sheet["a"] = "red"
        self.refused(InvalidColour, {"colour": ""}, put, sheet, "a", "")
        self.refused(InvalidDeed, {"index": None}, add, sheet, [])
        self.refused(InvalidFact, {"index": 0}, sheet.learn, None)
        sheet.undo()
        self.refused(NothingToUndo, {}, sheet.undo)

    def test_two_sheets_of_the_same_facts(self):
        one, other = Sheet(FACTS), Sheet(FACTS)
        one["a"] = "red"
        one.learn(("cover", "b", "c"))
        self.assertEqual(state(other), state(Sheet(FACTS)))
        self.refused(NothingToUndo, {}, other.undo)


class Learn(Sheets):
    def test_ordinary(self):
        sheet = Sheet(FACTS)
        sheet["c"] = "x"
        self.assertIsNone(sheet.learn(("cover", "c", "b")))
        sheet["b"] = "y"
        self.assertEqual(sheet.facts.stated(), STATED + [("cover", "c", "b")])
        self.assertIsNone(sheet.learn(fact=("in", "b", "a")))
        self.assertEqual([sheet[region] for region in ABC], [["y"], ["y"], ["x"]])
        sheet.learn(("apart", "a", "a"))
        self.assertEqual([sheet[region] for region in ABC], [[], [], ["x"]])
        self.assertEqual(FACTS.stated(), STATED)

    def test_what_is_stated_already_is_stated_again(self):
        sheet = Sheet(FACTS)
        for _ in range(3):
            sheet.learn(STATED[0])
        sheet.learn(("in", "a", "a"))
        self.assertEqual(sheet.facts.stated(), STATED + [STATED[0]] * 3 + [("in", "a", "a")])

    def test_it_is_not_undone(self):
        sheet = Sheet(FACTS)
        sheet["a"] = "x"
        sheet.learn(("in", "b", "a"))
        sheet.undo()
        self.assertEqual(sheet.facts.stated(), STATED + [("in", "b", "a")])
        self.refused(NothingToUndo, {}, sheet.undo)

    def test_no_fact(self):
        sheet = add(Sheet(FACTS), ROW)
        for thing in NO_NAMES + [
            ("in", "a"), ("in", "a", "d"), ("in", "d", "a"), ("in", "a", "b", "c"), ["in", "a", "b"], ("over", "a", "b"),
            ("in", "a", None), ("in", True, "a"), (None, "a", "b"), ("in", ["a"], "b"), (["in"], "a", "b"), "in a b", "inn",
            ("In", "a", "b"), Equal(), (Equal(), "a", "b"), ("in", Equal(), "b"), ("a", "in", "b"), ("in", {}, "b"),
        ]:
            self.kept(sheet, InvalidFact, {"index": 0}, sheet.learn, thing)

    def test_1200_facts(self):
        sheet = Sheet(Facts(ABC, STATED * 599 + STATED[:1]))
        sheet.learn(("in", "a", "b"))
        self.assertEqual(len(sheet.facts.stated()), 1200)
        self.kept(sheet, TooMany, {"limit": 1200}, sheet.learn, ("in", "a", "b"))
        self.kept(sheet, InvalidFact, {"index": 0}, sheet.learn, ("in", "a", "z"))
        # A fact that would contradict the others is refused for their number first.
        sheet = Sheet(Facts(ABC, [("cover", "a", "a")] * 1200))
        self.kept(sheet, TooMany, {"limit": 1200}, sheet.learn, ("apart", "a", "a"))

    def test_contradictions(self):
        sheet = Sheet(FACTS)
        self.kept(sheet, Contradiction, {
            "there": [("b", True), ("c", False), ("b", False)], "back": [("b", False), ("b", True)],
        }, add_facts, sheet, [("cover", "b", "b"), ("in", "b", "c")])
        self.assertEqual(sheet.facts.stated(), STATED)
        sheet.learn(("cover", "a", "a"))
        self.kept(sheet, Contradiction, {
            "there": [("a", True), ("a", False)], "back": [("a", False), ("a", True)],
        }, sheet.learn, ("apart", "a", "a"))
        self.kept(sheet, Contradiction, {
            "there": [("a", True), ("b", False), ("a", False)], "back": [("a", False), ("a", True)],
        }, sheet.learn, ("apart", "a", "b"))


def add_facts(sheet, facts):
    """Learn facts in a trial."""
    with sheet.trial():
        for fact in facts:
            sheet.learn(fact)


class Trials(Sheets):
    def test_ordinary(self):
        sheet = Sheet(FACTS)
        sheet["a"] = "red"
        before = state(sheet)
        with sheet.trial() as same:
            self.assertIs(same, sheet)
            same["b"] = "blue"
            sheet += ROW
            sheet.learn(("cover", "b", "c"))
            self.assertEqual(len(sheet.row), 5)
            self.assertEqual(sheet.facts.stated(), STATED + [("cover", "b", "c")])
        self.assertEqual(state(sheet), before)
        sheet.undo()
        self.refused(NothingToUndo, {}, sheet.undo)

    def test_what_was_undone_in_it_is_done_again(self):
        sheet = Sheet(FACTS)
        sheet["a"] = "red"
        sheet += ROW
        before = state(sheet)
        with sheet.trial():
            sheet.undo()
            sheet.undo()
            self.refused(NothingToUndo, {}, sheet.undo)
            sheet["c"] = "x"
        self.assertEqual(state(sheet), before)
        sheet.undo()
        self.assertEqual(sheet.row.deeds(), [("put", "red", "a")])
        sheet.undo()
        self.refused(NothingToUndo, {}, sheet.undo)

    def test_an_error_leaves_it(self):
        sheet = add(Sheet(FACTS), ROW)
        before = state(sheet)
        for error in (KeyError, InvalidFact, KeyboardInterrupt):
            with self.assertRaises(error):
                with sheet.trial():
                    sheet["a"] = None
                    sheet.learn(("in", "b", "a"))
                    raise error(0)
            self.assertEqual(state(sheet), before)
        with self.assertRaises(TooMany):
            with sheet.trial() as same:
                same.undo()
                for _ in range(31):
                    same["b"] = "x"
        self.assertEqual(state(sheet), before)

    def test_the_block_begins_behind_the_call(self):
        sheet = Sheet(FACTS)
        trial = sheet.trial()
        sheet["a"] = "red"
        sheet.learn(("in", "b", "a"))
        with trial:
            sheet["a"] = "blue"
        self.assertEqual(sheet.row.deeds(), [("put", "red", "a")])
        self.assertEqual(len(sheet.facts.stated()), 3)

    def test_left_by_break_and_return(self):
        sheet = Sheet(FACTS)

        def left():
            with sheet.trial():
                sheet["a"] = "red"
                return sheet["b"]

        self.assertEqual(left(), [None, "red"])
        for _ in range(2):
            with sheet.trial():
                sheet["a"] = "red"
                break
        self.assertEqual(state(sheet), state(Sheet(FACTS)))

    def test_trials_inside_trials(self):
        sheet = Sheet(FACTS)
        sheet["a"] = "x"
        states = [state(sheet)]
        with sheet.trial():
            sheet["b"] = "y"
            sheet.learn(("cover", "b", "c"))
            states.append(state(sheet))
            with sheet.trial():
                sheet.undo()
                sheet.undo()
                sheet["c"] = "z"
                with sheet.trial(), sheet.trial() as same:
                    same += ROW
                    same.learn(("in", "c", "c"))
                self.assertEqual(sheet.row.deeds(), [("put", "z", "c")])
            self.assertEqual(state(sheet), states[1])
            with self.assertRaises(KeyError), sheet.trial():
                sheet.learn(("in", "b", "a"))
                raise KeyError
            self.assertEqual(state(sheet), states[1])
            sheet.undo()
            self.assertEqual(sheet.row.deeds(), [("put", "x", "a")])
        self.assertEqual(state(sheet), states[0])

    def test_what_was_read_in_it_stays(self):
        sheet = add(Sheet(FACTS), ROW)
        with sheet.trial():
            sheet["a"] = None
            sheet.learn(("in", "b", "a"))
            row, facts = sheet.row, sheet.facts
        self.assertEqual((row.deeds(), facts.stated()), (ROW.deeds() + [("wipe", "a")], STATED + [("in", "b", "a")]))


class Bounds(Sheets):
    def test_24_regions(self):
        sheet = Sheet(Facts(REGIONS, []))
        for region in REGIONS:
            sheet[region] = region
        self.assertEqual(sheet["ra"], REGIONS)
        self.assertEqual(sheet["rx"], ["rx"])
        told = sheet.tried(Row([("wipe", "rx"), ("turn", "ra", "rb")]))
        self.assertEqual(told, [[None] + REGIONS[1:-1]] + [
            [None] + REGIONS[at:-1] for at in range(1, 24)
        ])
        self.assertEqual(told, [
            colours_on(sheet.facts, sheet.row + Row([("wipe", "rx"), ("turn", "ra", "rb")]), [(region, True)], None)
            for region in REGIONS
        ])


if __name__ == "__main__":
    unittest.main()
