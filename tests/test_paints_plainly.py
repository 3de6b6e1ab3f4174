"""Covered deeds, steps, deciding maps, sheets and texts against the document's words, at all possible patches."""

import random
import unittest

from coatrows.deciding import alike_on, deciding, needing
from coatrows.errors import CoatError, Contradiction, InvalidText, NothingToUndo, TooMany
from coatrows.facts import Facts
from coatrows.moves import covers, moves, moves_hold
from coatrows.rows import Row
from coatrows.sheet import Sheet
from coatrows.text import fact_text, read_facts, read_row, row_text
from tests import chance, plain, plain_paints, plain_rows
from tests.checking import Checked

PAINTS = ("put", "wipe")
WORDS = ["on", "under", "to", "wipe", "in", "apart", "cover", "a", "o", "wipes", "u" * 12, "toto", "n"]


def cases(seed, many, most):
    """Generate random regions, facts and possible patches."""
    choice = random.Random(seed)
    for _ in range(many):
        regions = choice.sample(["a", "b", "c", "d", "e"], choice.randrange(1, most + 1))
        facts = chance.some_facts(choice, regions, 6)
        yield choice, regions, facts, plain.possible(regions, facts)


class Covered(Checked):
    def test_covers(self):
        told = {None: 0, 0: 0, 1: 0, 2: 0}
        for choice, regions, facts, patches in cases(81, 800, 5):
            wide = facts + [("cover", choice.choice(regions), choice.choice(regions))]
            if plain.possible(regions, wide):
                facts, patches = wide, plain.possible(regions, wide)
            deeds = chance.some_deeds(choice, regions, 7, PAINTS)
            for at in range(len(deeds)):
                found = covers(Facts(regions, facts), Row(deeds), at)
                self.assertEqual(found, plain_paints.covers(patches, deeds, at))
                told[None if found is None else len(found)] += 1
        self.assertGreater(min(told.values()), 40, told)


class Steps(Checked):
    def test_moves(self):
        verdicts = {True: 0, False: 0}
        for choice, regions, facts, patches in cases(82, 900, 4):
            one, other = chance.close_rows(choice, regions, 5, PAINTS)
            made = Facts(regions, facts)
            told = moves(made, Row(one), Row(other))
            self.assertEqual(told is not None, plain_rows.alike(patches, one, other))
            verdicts[told is not None] += 1
            if told is not None:
                self.assertLessEqual(len(told), len(one) * len(other) + len(one) + len(other))
                self.assertTrue(plain_paints.steps_lead(patches, regions, one, other, told))
                self.assertTrue(moves_hold(made, Row(one), Row(other), told))
        self.assertGreater(min(verdicts.values()), 200)

    def spoilt(self, choice, regions, steps):
        """Return steps with one thing changed."""
        steps = list(steps)
        at = choice.randrange(len(steps) + 1)
        some = choice.choice([
            ("take",), ("swap", choice.randrange(8)), ("lay", chance.some_deed(choice, regions, PAINTS)),
        ])
        way = choice.randrange(4)
        if way == 0 and steps:
            steps[at - 1] = some
        elif way == 1 and steps:
            del steps[at - 1]
        elif way == 2 and at < len(steps) - 1:
            steps[at], steps[at + 1] = steps[at + 1], steps[at]
        else:
            steps.insert(at, some)
        return steps

    def test_moves_hold(self):
        verdicts = {True: 0, False: 0}
        for choice, regions, facts, patches in cases(83, 900, 4):
            one, other = chance.close_rows(choice, regions, 4, PAINTS)
            made = Facts(regions, facts)
            told = moves(made, Row(one), Row(other)) or []
            for _ in range(4):
                steps = self.spoilt(choice, regions, told)
                same = plain_paints.steps_lead(patches, regions, one, other, steps)
                self.assertIs(moves_hold(made, Row(one), Row(other), steps), same)
                verdicts[same] += 1
        self.assertGreater(min(verdicts.values()), 100, verdicts)

    def test_random_steps(self):
        # The row to which allowed steps lead is told apart from all others.
        ended = 0
        for choice, regions, facts, patches in cases(84, 500, 3):
            deeds = chance.some_deeds(choice, regions, 4, PAINTS)
            made = Facts(regions, facts)
            start, steps = deeds, []
            for _ in range(choice.randrange(8)):
                step = choice.choice([
                    ("take",), ("swap", choice.randrange(5)), ("lay", chance.some_deed(choice, regions, PAINTS)),
                ])
                behind = plain_paints.behind_step(patches, regions, deeds, step)
                self.assertIs(moves_hold(made, Row(start), Row(behind or []), steps + [step]), behind is not None)
                if behind is not None:
                    deeds, steps = behind, steps + [step]
                    self.assertTrue(plain_rows.alike(patches, start, deeds))
            self.assertTrue(moves_hold(made, Row(start), Row(deeds), steps))
            ended += len(steps) > 2
        self.assertGreater(ended, 100)


class Deciding(Checked):
    def coverless(self, seed, many, most):
        for choice, regions, facts, _ in cases(seed, many, most):
            facts = [fact for fact in facts if fact[0] != "cover" or fact[1] == fact[2]]
            yield choice, regions, facts, plain.possible(regions, facts)

    def test_deciding_and_needing(self):
        needed = 0
        for _, regions, facts, patches in self.coverless(85, 400, 5):
            made = Facts(regions, facts)
            found = plain_paints.deciding(regions, patches)
            self.assertEqual(deciding(made), found)
            for patch in plain.all_patches(regions):
                rows = needing(made, patch)
                self.assertEqual(rows is not None, patch in found)
                if rows is not None:
                    one, other = [row.deeds() for row in rows]
                    self.assertEqual([deed for deed in one + other if deed[0] == "fill"], [])
                    self.assertLessEqual(set(rows[0].regions() + rows[1].regions()), set(regions))
                    parted = [there for there, _ in plain_rows.partings(patches, one, other)]
                    self.assertEqual([there for there in patches if there in parted], [patch])
                    needed += 1
        self.assertGreater(needed, 1000)

    def test_rows_without_wipes_or_without_fills_are_decided(self):
        verdicts = {True: 0, False: 0}
        for choice, regions, facts, patches in self.coverless(86, 600, 4):
            kinds = choice.choice([("put", "wipe", "turn"), ("put", "fill", "turn"), ("put", "wipe"), ("fill", "put")])
            one, other = chance.close_rows(choice, regions, 6, kinds)
            same = plain_rows.alike(patches, one, other)
            self.assertIs(alike_on(deciding(Facts(regions, facts)), Row(one), Row(other)), same)
            verdicts[same] += 1
        self.assertGreater(min(verdicts.values()), 100)

    def test_alike_on(self):
        verdicts = {True: 0, False: 0}
        for choice, regions, _, _ in cases(87, 1500, 4):
            one, other = chance.close_rows(choice, regions, 6)
            names = choice.sample(regions + ["x", "y"], len(regions) + 2)
            patches = [choice.sample(names, choice.randrange(len(names))) for _ in range(choice.randrange(4))]
            same = plain_rows.alike(patches, one, other)
            self.assertIs(alike_on(patches, Row(one), Row(other)), same)
            verdicts[same] += 1
        self.assertGreater(min(verdicts.values()), 150)


class Sheets(Checked):
    """A sheet beside a list of the things that were done and one of the facts that are stated."""

    def look(self, regions, sheet, things, facts):
        deeds = [deed for thing in things for deed in thing]
        self.assertEqual((sheet.row.deeds(), sheet.facts.stated()), (deeds, facts))
        self.assertEqual(sheet.facts.regions(), regions)
        patches = plain.possible(regions, facts)
        for region in regions:
            self.assertEqual(sheet[region], plain_paints.shown_on(patches, deeds, region))

    def try_row(self, choice, regions, sheet, things, facts):
        deeds = chance.some_deeds(choice, regions, 3)
        behind = [deed for thing in things for deed in thing] + deeds
        if len(behind) > 30:
            self.refused(TooMany, {"limit": 30}, sheet.tried, Row(deeds))
            return
        patches = plain.possible(regions, facts)
        found = [plain_paints.shown_on(patches, behind, region) for region in regions]
        self.assertEqual(self.fresh(sheet.tried, Row(deeds)), found)

    def do(self, choice, regions, sheet, things):
        deeds = [chance.some_deed(choice, regions, ("put", "wipe"))]
        if choice.random() < 0.6:
            deeds = chance.some_deeds(choice, regions, 6)
        over = sum(len(thing) for thing in things) + len(deeds) > 30
        try:
            if len(deeds) == 1 and deeds[0][0] in ("put", "wipe") and choice.random() < 0.7:
                sheet[deeds[0][-1]] = deeds[0][1] if deeds[0][0] == "put" else None
            else:
                same = sheet
                sheet += Row(deeds)
                self.assertIs(sheet, same)
            self.assertFalse(over)
            things.append(deeds)
        except TooMany as error:
            self.assertEqual((over, error.limit), (True, 30))

    def learn(self, choice, regions, sheet, facts):
        fact = (choice.choice(plain.KINDS), choice.choice(regions), choice.choice(regions))
        if plain.possible(regions, facts + [fact]):
            self.assertIsNone(sheet.learn(fact))
            facts.append(fact)
        else:
            there, back = plain.contradiction(regions, facts + [fact])
            self.refused(Contradiction, {"there": there, "back": back}, sheet.learn, fact)

    def undo(self, sheet, things):
        if things:
            things.pop()
            self.assertIsNone(sheet.undo())
        else:
            self.refused(NothingToUndo, {}, sheet.undo)

    def play(self, choice, regions, sheet, things, facts, depth):
        for _ in range(choice.randrange(1, 7)):
            way = choice.randrange(9)
            if way < 4:
                self.do(choice, regions, sheet, things)
            elif way == 4:
                self.undo(sheet, things)
            elif way == 5 and choice.random() < 0.5:
                self.learn(choice, regions, sheet, facts)
            elif way == 6:
                self.try_row(choice, regions, sheet, things, facts)
            elif way > 6 and depth < 3:
                self.one_trial(choice, regions, sheet, things, facts, depth)
            self.look(regions, sheet, things, facts)

    def one_trial(self, choice, regions, sheet, things, facts, depth):
        row, known = sheet.row, sheet.facts
        raised = choice.random() < 0.4
        try:
            with sheet.trial() as same:
                self.assertIs(same, sheet)
                self.play(choice, regions, sheet, list(things), list(facts), depth + 1)
                if raised:
                    raise KeyError("left")
        except KeyError:
            self.assertTrue(raised)
        self.assertEqual((sheet.row, sheet.facts.stated()), (row, known.stated()))

    def test_random_lives_of_sheets(self):
        longest = 0
        for choice, regions, facts, _ in cases(88, 120, 4):
            facts = facts[:2]
            sheet, things, told = Sheet(Facts(regions, facts)), [], list(facts)
            self.look(regions, sheet, things, told)
            for _ in range(4):
                self.play(choice, regions, sheet, things, told, 0)
            longest = max(longest, len(sheet.row))
            while things:
                self.undo(sheet, things)
                self.look(regions, sheet, things, told)
            self.undo(sheet, things)
        self.assertGreater(longest, 24)


class Texts(Checked):
    def some_name(self, choice):
        return choice.choice(WORDS)

    def some_row(self, choice, most):
        deeds = []
        for _ in range(choice.randrange(most + 1)):
            kind = choice.choice(chance.KINDS)
            deeds.append((kind, *[self.some_name(choice) for _ in range(1 if kind == "wipe" else 2)]))
        return deeds

    def check(self, text):
        """Check what is read of a text against the plain reader."""
        if not plain_paints.is_text(text):
            self.refused(InvalidText, {"column": plain_paints.longest_beginning(text)}, read_row, text)
        elif len(plain_paints.deeds_of(text)) > 30:
            self.refused(TooMany, {"limit": 30}, read_row, text)
        else:
            self.assertEqual(read_row(text).deeds(), plain_paints.deeds_of(text))

    def test_rows_read_back(self):
        choice = random.Random(89)
        for _ in range(500):
            deeds = self.some_row(choice, 30)
            text = row_text(Row(deeds))
            self.assertTrue(plain_paints.is_text(text))
            self.assertEqual(read_row(text).deeds(), deeds)
            self.assertEqual(plain_paints.deeds_of(text), deeds)

    def test_every_beginning(self):
        choice = random.Random(90)
        for _ in range(60):
            text = row_text(Row(self.some_row(choice, 5)))
            for end in range(len(text) + 1):
                self.check(text[:end])

    def test_one_sign_changed(self):
        choice = random.Random(91)
        signs = "abnotuwipe;; --  AZ09~,.:_%"
        for _ in range(150):
            text = row_text(Row(self.some_row(choice, 4)))
            for _ in range(20):
                at = choice.randrange(len(text) + 1)
                self.check(text[:at] + choice.choice(signs) + text[at:])
                self.check(text[:at] + text[at + 1:])
                self.check(text[:at] + choice.choice(signs) + text[at + 1:])

    def test_random_texts(self):
        choice = random.Random(92)
        pieces = WORDS + [" ", " ", " ", " ", ";", "; ", "; ", "-", "a" * 13]
        for _ in range(3000):
            self.check("".join(choice.choice(pieces) for _ in range(choice.randrange(9))))

    def test_facts_read_back(self):
        choice = random.Random(93)
        for _ in range(300):
            regions = choice.sample(WORDS, choice.randrange(1, 6))
            facts = chance.some_facts(choice, regions, 20)
            lines = [fact_text(fact) for fact in facts]
            self.assertEqual(lines, [f"{one} {kind} {other}" for kind, one, other in facts])
            read = read_facts(regions, lines)
            self.assertEqual((read.regions(), read.stated()), (regions, facts))


if __name__ == "__main__":
    unittest.main()
