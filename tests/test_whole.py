"""All functions of all modules: by turns, by name, behind errors, and with arguments that are changed later."""

import random
import unittest

from coatrows import comparing, deciding, hands, maps, moves, outcomes, rows, text
from coatrows.errors import (
    CoatError, Contradiction, InvalidClaim, InvalidColour, InvalidDeed, InvalidFact, InvalidMap, InvalidNumber, InvalidPatch,
    InvalidRegion, InvalidText, NothingToUndo, TooMany, UnknownRegion,
)
from coatrows.facts import Facts
from coatrows.rows import Row
from coatrows.sheet import Sheet
from tests.checking import Checked, words

# The same facts in two orders of the regions, other facts about them, and facts about more regions.
SETTINGS = [
    (["a", "b", "c"], [("in", "a", "b"), ("apart", "b", "c")]),
    (["c", "b", "a"], [("in", "a", "b"), ("apart", "b", "c")]),
    (["a", "b", "c"], [("cover", "a", "a"), ("in", "b", "c"), ("in", "b", "c")]),
    (["c", "a", "b"], []),
    (["on", "b", "a", "wipe", "c"], [("apart", "c", "c"), ("in", "wipe", "a"), ("apart", "on", "b")]),
]
PATCHES = [[], ["b"], ["a", "b"]]
DEEDS = [("put", "red", "b"), ("put", "blue", "a"), ("fill", "green", "c")]
TURNED = [("wipe", "b"), ("turn", "red", "blue"), ("fill", "red", "a"), ("put", "red", "c")]
PAINTS = [("put", "x", "a"), ("wipe", "b"), ("put", "x", "c")]


def painted(facts, row, fact):
    """Return what a sheet shows of its regions behind several changes."""
    sheet = Sheet(facts)
    told = []
    sheet["a"] = "red"
    sheet += row
    told.append([sheet[region] for region in facts.regions()])
    with sheet.trial():
        sheet["b"] = None
        try:
            sheet.learn(fact)
        except Contradiction:
            told.append("refused")
        told.append([sheet.tried(row), sheet.row, sheet.facts])
        sheet.undo()
        sheet.undo()
    told.append([sheet.tried(row), sheet.row, sheet.facts, sheet["b"]])
    sheet.undo()
    return told + [[sheet.row, sheet["a"]]]


def of_facts(facts):
    """Return the calls of the methods of facts."""
    claims = [("b", True), ("a", False), ("b", True)]
    return [
        (lambda: facts.regions(), {}), (lambda: facts.stated(), {}), (lambda: facts.following(), {}),
        (facts.way, {"claim": ("a", True), "other": ("c", False)}), (facts.least_patch, {"claims": claims}),
        (facts.barred, {"claims": [("c", True), ("b", True)]}), (lambda claims: list(facts.patches(claims)), {"claims": claims}),
        (facts.count_patches, {}), (lambda x: x in facts, {"x": ("apart", "c", "a")}),
        (lambda other: facts & other, {"other": Facts(facts.regions(), [("in", "b", "b")])}),
        (lambda other: facts == other, {"other": Facts(facts.regions(), facts.following())}),
    ]


def of_rows(facts, row, other, paints, later):
    """Return the calls that compare rows, and those of the methods of rows."""
    both = {"facts": facts, "one": row, "other": other}
    puts = Row([("put", "x", "a"), ("put", "y", "b"), ("put", "x", "c")])
    told = comparing.compared(facts, row, other)
    steps = moves.moves(facts, paints, later)
    return [
        (row.deeds, {}), (row.regions, {}), (row.colours, {}), (row.without, {"index": 1}),
        (lambda index: row[index], {"index": 2}), (lambda: len(row), {}), (lambda other: row + other, {"other": other}),
        (lambda other: row == other, {"other": Row(row.deeds())}),
        (rows.shown, {"row": row, "patch": ["b", "a"], "first": None}), (rows.first_colours, {"one": row, "other": other}),
        (comparing.alike, both), (comparing.compared, both), (comparing.compare_holds, {**both, "told": told}),
        (comparing.hidden, {"facts": facts, "row": row}), (comparing.bare, {"facts": facts, "row": other}),
        (comparing.turns_ahead, {"row": other}), (comparing.may_exchange, {"facts": facts, "row": row, "index": 1}),
        (comparing.least_order, {"facts": facts, "row": row}), (comparing.count_orders, {"facts": facts, "row": row}),
        (hands.hands_part, {"facts": facts, "one": row, "other": paints}),
        (hands.hands_agree, {"facts": facts, "rows": [paints, later, paints]}), (hands.from_above, {"row": puts}),
        (hands.helping, both), (moves.covers, {"facts": facts, "row": paints, "index": 0}),
        (moves.moves, {"facts": facts, "one": paints, "other": later}),
        (moves.moves_hold, {"facts": facts, "one": paints, "other": later, "told": steps}),
        (deciding.alike_on, {"patches": [["b"], ["c", "a"], []], "one": row, "other": other}), (text.row_text, {"row": row}),
    ]


def calls(setting):
    """Return a call of each function and method of the interface, with its arguments by name, in their order."""
    regions, stated = list(setting[0]), list(setting[1])
    facts = Facts(regions, stated)
    patch = [region for region in regions if region in "ab"]
    patches = [[region for region in regions if region in part] for part in ("", "b", "ab", "c")]
    row, other = Row(list(DEEDS)), Row(list(TURNED))
    paints, later = Row(list(PAINTS)), Row([("wipe", "c")] + PAINTS)
    claims = [("b", True), ("b", True)]
    return of_facts(facts) + of_rows(facts, row, other, paints, later) + [
        (Facts, {"regions": regions, "facts": stated}), (Row, {"deeds": list(DEEDS)}),
        (maps.facts_of, {"regions": regions, "patches": patches}), (maps.first_break, {"facts": facts, "patches": patches}),
        (maps.majority, {"regions": regions, "one": patch, "two": [], "three": patches[1]}),
        (maps.making, {"regions": regions, "patches": patches, "patch": patch}),
        (maps.making_holds, {"regions": regions, "patches": patches, "patch": patch, "steps": [(0, 1, 2)]}),
        (maps.drawn, {"facts": facts}), (outcomes.outcomes, {"row": other, "regions": regions}),
        (outcomes.possible_outcomes, {"facts": facts, "row": other}),
        (outcomes.outcome_at, {"facts": facts, "row": row, "patch": patch, "first": "red"}),
        (outcomes.colours_on, {"facts": facts, "row": other, "claims": claims, "first": None}),
        (deciding.deciding, {"facts": facts}), (deciding.needing, {"facts": facts, "patch": patches[1]}),
        (painted, {"facts": facts, "row": other, "fact": ("in", "b", "a")}), (Sheet(facts).tried, {"row": other}),
        (text.fact_text, {"fact": ("in", "a", "b")}), (text.read_row, {"text": "wipe on; wipe on on"}),
        (text.read_facts, {"regions": regions, "lines": [text.fact_text(fact) for fact in stated]}),
    ]


def refusals(setting):
    """Return calls that raise, with the errors that they raise."""
    regions, stated = setting
    facts, strange, turn = Facts(regions, stated), Row([("wipe", "z")]), Row([("turn", "a", "b")])
    sheet = Sheet(facts)
    full = Row([("wipe", "a")] * 30)
    return [
        (InvalidRegion, lambda: Facts(regions + regions, stated)), (InvalidFact, lambda: Facts(regions, [("in", "a", "z")])),
        (Contradiction, lambda: Facts(regions, [("cover", "b", "b"), ("apart", "b", "b")])),
        (InvalidClaim, lambda: facts.least_patch([("a", 1)])), (InvalidClaim, lambda: list(facts.patches(None))),
        (InvalidClaim, lambda: facts.barred([("z", True)])), (InvalidClaim, lambda: facts.way(("a", True), ("z", True))),
        (InvalidRegion, lambda: facts & None), (InvalidDeed, lambda: Row([("wipe",)])), (TooMany, lambda: full + turn),
        (InvalidNumber, lambda: full[30]), (InvalidNumber, lambda: turn.without(True)),
        (InvalidPatch, lambda: rows.shown(turn, ["a", "a"], None)), (InvalidColour, lambda: rows.shown(turn, ["a"], "")),
        (InvalidMap, lambda: maps.facts_of(regions, [[], ["z"]])), (InvalidMap, lambda: maps.first_break(facts, [])),
        (InvalidPatch, lambda: maps.majority(regions, [], None, [])), (InvalidMap, lambda: maps.making(regions, [None], [])),
        (UnknownRegion, lambda: outcomes.outcomes(strange, regions)), (UnknownRegion, lambda: comparing.alike(facts, turn, strange)),
        (UnknownRegion, lambda: comparing.compared(facts, strange, turn)), (UnknownRegion, lambda: comparing.bare(facts, strange)),
        (InvalidNumber, lambda: comparing.may_exchange(facts, full, 29)), (TooMany, lambda: comparing.count_orders(facts, full)),
        (InvalidDeed, lambda: hands.hands_part(facts, turn, strange)), (InvalidDeed, lambda: hands.from_above(turn)),
        (InvalidDeed, lambda: hands.hands_agree(facts, [full, turn])), (UnknownRegion, lambda: hands.helping(facts, strange, turn)),
        (InvalidDeed, lambda: moves.covers(facts, turn, 0)), (InvalidNumber, lambda: moves.covers(facts, full, 30)),
        (UnknownRegion, lambda: moves.moves(facts, full, strange)), (InvalidDeed, lambda: moves.moves_hold(facts, turn, full, [])),
        (InvalidFact, lambda: deciding.deciding(Facts(regions, [("cover", "a", "b")]))),
        (InvalidPatch, lambda: deciding.needing(facts, ["z"])), (InvalidMap, lambda: deciding.alike_on([["a"], None], turn, full)),
        (UnknownRegion, lambda: sheet["z"]), (InvalidDeed, lambda: sheet.tried(None)), (NothingToUndo, sheet.undo),
        (InvalidFact, lambda: sheet.learn(None)), (UnknownRegion, lambda: sheet.tried(strange)),
        (InvalidFact, lambda: text.fact_text(None)), (InvalidText, lambda: text.read_row("wipe")),
        (InvalidFact, lambda: text.read_facts(regions, ["a in z"])), (TooMany, lambda: text.read_row("; ".join(["a to b"] * 31))),
    ]


class Whole(Checked):
    def test_by_turns(self):
        alone = [[words(call(**named)) for call, named in calls(setting)] for setting in SETTINGS]
        shared = [calls(setting) for setting in SETTINGS]
        wrong = [refusal for setting in SETTINGS for refusal in refusals(setting)]
        self.assertEqual({error for error, _ in wrong}, set(CoatError.__subclasses__()))
        places = [(at, index) for at, told in enumerate(shared) for index in range(len(told))]
        choice = random.Random(95)
        for _ in range(4):
            for at, index in choice.sample(places, len(places)):
                error, call = choice.choice(wrong)
                with self.assertRaises(error) as caught:
                    call()
                self.assertIs(type(caught.exception), error)
                call, named = shared[at][index]
                self.assertEqual(words(call(**named)), alone[at][index], (at, index))

    def test_by_position_and_by_name_in_any_order(self):
        choice = random.Random(96)
        for setting in SETTINGS:
            for call, named in calls(setting):
                told = words(call(*named.values()))
                for _ in range(3):
                    mixed = dict(choice.sample(list(named.items()), len(named)))
                    self.assertEqual(words(call(**mixed)), told)

    def test_what_is_told_is_new_and_arguments_stay(self):
        for setting in SETTINGS:
            for call, named in calls(setting):
                self.fresh(call, *named.values())

    def test_each_refusal_comes_again(self):
        for setting in SETTINGS:
            for error, call in refusals(setting):
                fields = []
                for _ in range(2):
                    with self.assertRaises(error) as caught:
                        call()
                    self.assertIs(type(caught.exception), error)
                    fields.append(vars(caught.exception))
                self.assertEqual(fields[0], fields[1])


class Changed(Checked):
    """Lists that were handed in or told, and grow or shrink between two calls."""

    def test_handed_in(self):
        regions, stated, deeds, lines = ["a", "b"], [("in", "a", "b")], [("put", "x", "a")], ["a in b"]
        facts, row, read = Facts(regions, stated), Row(deeds), text.read_facts(regions, lines)
        sheet = Sheet(facts)
        sheet += row
        for handed in (regions, stated, deeds, lines):
            handed.clear()
        for known in (facts, read, sheet.facts):
            self.assertEqual((known.regions(), known.stated()), (["a", "b"], [("in", "a", "b")]))
            self.assertEqual(list(known.patches([])), [[], ["b"], ["a", "b"]])
        self.assertEqual((row.deeds(), sheet.row.deeds()), ([("put", "x", "a")], [("put", "x", "a")]))
        self.assertEqual((sheet["a"], sheet["b"]), (["x"], [None, "x"]))

    def test_looked_at_each_time_anew(self):
        facts = Facts(["a", "b"], [("in", "a", "b")])
        one, other = Row([("put", "x", "a"), ("put", "y", "b")]), Row([("put", "y", "b")])
        steps = []
        self.assertFalse(moves.moves_hold(facts, one, other, steps))
        steps.append(("take",))
        self.assertTrue(moves.moves_hold(facts, one, other, steps))
        steps.append(None)
        self.assertFalse(moves.moves_hold(facts, one, other, steps))
        free = Row([("put", "y", "b"), ("put", "x", "a")])
        patches = [[]]
        self.assertTrue(deciding.alike_on(patches, one, free))
        patches[0].append("a")
        self.assertTrue(deciding.alike_on(patches, one, free))
        patches[0].append("b")
        self.assertFalse(deciding.alike_on(patches, one, free))
        patches[0].append("a")
        self.refused(InvalidMap, {"index": 0}, deciding.alike_on, patches, one, free)
        patch = ["b"]
        self.assertIsNotNone(deciding.needing(facts, patch))
        patch.insert(0, "a")
        self.assertIsNotNone(deciding.needing(facts, patch))
        patch.pop()
        self.assertIsNone(deciding.needing(facts, patch))
        lines = ["a in b"]
        self.assertEqual(len(text.read_facts(["a", "b"], lines).stated()), 1)
        lines.append("b in b")
        self.assertEqual(len(text.read_facts(["a", "b"], lines).stated()), 2)
        claims = [("b", True)]
        told = facts.patches(claims)
        claims.append(("a", False))
        self.assertEqual(list(told), [["b"]])


if __name__ == "__main__":
    unittest.main()
