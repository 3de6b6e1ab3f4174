"""Rows against a plain going through of all patches and first colours, deed by deed."""

import random
import unittest

from coatrows.comparing import (
    alike, bare, compare_holds, compared, count_orders, hidden, least_order, may_exchange, turns_ahead,
)
from coatrows.facts import Facts
from coatrows.hands import from_above, hands_agree, hands_part, helping
from coatrows.outcomes import colours_on, outcome_at, outcomes, possible_outcomes
from coatrows.rows import Row
from tests import chance, plain, plain_rows
from tests.checking import Checked

PAINTS = ("put", "fill", "wipe")


def cases(seed, many, most_deeds, kinds=chance.KINDS, most_regions=4):
    """Return random regions, facts about them, their possible patches, and two rows of deeds that differ little."""
    choice = random.Random(seed)
    told = []
    for _ in range(many):
        regions = choice.sample(["a", "b", "c", "d"], choice.randint(1, most_regions))
        facts = chance.some_facts(choice, regions, 5)
        one, other = chance.close_rows(choice, regions, most_deeds, kinds)
        told.append((choice, regions, facts, plain.possible(regions, facts), one, other))
    return told


class Outcomes(Checked):
    def test_all_and_the_possible_ones(self):
        left_out = 0
        for _, regions, facts, patches, deeds, _ in cases(31, 300, 7):
            told = outcomes(Row(deeds), regions)
            self.assertEqual(told, plain_rows.outcomes(deeds, regions))
            possible = [
                outcome for outcome in told if any(plain.true_of(patch, outcome[3]) for patch in patches)
            ]
            self.assertEqual(possible_outcomes(Facts(regions, facts), Row(deeds)), possible)
            left_out += len(possible) < len(told)
        self.assertGreater(left_out, 50)

    def test_each_point_has_the_one_whose_claims_are_true(self):
        for _, regions, facts, _, deeds, _ in cases(32, 200, 7):
            made, row = Facts(regions, facts), Row(deeds)
            told = outcomes(row, regions)
            for patch in plain.all_patches(regions):
                for first in plain_rows.first_colours(deeds):
                    at = outcome_at(made, row, patch, first)
                    self.assertEqual(told[at], plain_rows.outcome_of(deeds, regions, patch, first))
                    end = told[at][4]
                    if isinstance(end, tuple):
                        end = dict(end).get(first, first)
                    self.assertEqual(end, plain_rows.done(deeds, patch, first))

    def test_colours_on(self):
        for choice, regions, facts, patches, deeds, _ in cases(33, 300, 7):
            claims = [choice.choice(plain.all_claims(regions)) for _ in range(choice.randrange(4))]
            for first in plain_rows.first_colours(deeds):
                things = {plain_rows.done(deeds, patch, first) for patch in patches if plain.true_of(patch, claims)}
                things = ([None] if None in things else []) + sorted(things - {None})
                self.assertEqual(colours_on(Facts(regions, facts), Row(deeds), claims, first), things)


class Compared(Checked):
    def test_alike_and_compared(self):
        kinds = {"alike": 0, "parted": 0}
        for _, regions, facts, patches, one, other in cases(34, 500, 6):
            made = Facts(regions, facts)
            parts = plain_rows.partings(patches, one, other)
            self.assertIs(alike(made, Row(one), Row(other)), not parts)
            told = compared(made, Row(one), Row(other))
            kinds[told[0]] += 1
            self.assertIs(compare_holds(made, Row(one), Row(other), told), True)
            if parts:
                self.assertEqual(told, ("parted", *parts[0]))
            else:
                self.assertEqual(told[0], "alike")
                self.assertTrue(plain_rows.paper_holds(regions, facts, one, other, told[1:]))
        self.assertGreater(min(kinds.values()), 100)

    def test_parting_patches_and_first_colours(self):
        for _, regions, facts, patches, one, other in cases(35, 150, 5):
            parts = plain_rows.partings(patches, one, other)
            for patch in plain.all_patches(regions):
                for first in plain_rows.first_colours(one, other):
                    holds = compare_holds(Facts(regions, facts), Row(one), Row(other), ("parted", patch, first))
                    self.assertIs(holds, (patch, first) in parts)

    def spoilt(self, choice, regions, paper):
        """Return a copy of a list of lists of claims in which one thing is changed."""
        paper = [list(listed) for listed in paper]
        listed = choice.choice(paper)
        at = choice.randrange(len(listed) + 1)
        way = choice.randrange(4)
        if way == 0 and at < len(listed):
            del listed[at]
        elif way == 1:
            listed.insert(at, choice.choice(plain.all_claims(regions)))
        elif way == 2:
            choice.shuffle(listed)
        elif at < len(listed):
            listed[at] = choice.choice(plain.all_claims(regions))
        return paper

    def test_papers_in_which_one_thing_is_changed(self):
        verdicts = {True: 0, False: 0}
        for choice, regions, facts, patches, one, other in cases(36, 500, 5):
            told = compared(Facts(regions, facts), Row(one), Row(other))
            if told[0] == "parted":
                continue
            for _ in range(6):
                papers = [self.spoilt(choice, regions, paper) for paper in told[1:]]
                holds = plain_rows.paper_holds(regions, facts, one, other, papers)
                verdicts[holds] += 1
                self.assertIs(compare_holds(Facts(regions, facts), Row(one), Row(other), ("alike", *papers)), holds)
        self.assertGreater(min(verdicts.values()), 200)

    def test_no_paper_for_rows_that_are_parted(self):
        found = 0
        for _, regions, facts, patches, one, other in cases(37, 300, 5):
            if plain_rows.alike(patches, one, other):
                continue
            found += 1
            # With all claims that anything leads to, the lists are as long as they can be.
            lists = []
            for deeds in (one, other):
                lists.append([self.all_led_to(regions, facts, out[3]) for out in plain_rows.outcomes(deeds, regions)])
            self.assertIs(compare_holds(Facts(regions, facts), Row(one), Row(other), ("alike", *lists)), False)
        self.assertGreater(found, 60)

    def all_led_to(self, regions, facts, claims):
        found = list(claims)
        for source in found:
            for claim in plain.all_claims(regions):
                if claim not in found and plain.leads(facts, source, claim):
                    found.append(claim)
        return found

    def test_hidden_and_bare(self):
        left_out = 0
        for _, regions, facts, patches, deeds, _ in cases(38, 300, 6):
            made = Facts(regions, facts)
            told = hidden(made, Row(deeds))
            self.assertEqual(told, plain_rows.hidden(patches, deeds))
            bared = bare(made, Row(deeds))
            self.assertEqual(bared.deeds(), plain_rows.bare(patches, deeds))
            self.assertTrue(plain_rows.alike(patches, deeds, bared.deeds()))
            left_out += len(bared) < len(deeds) - 1
        self.assertGreater(left_out, 50)

    def test_turns_alone(self):
        for _, regions, facts, patches, one, other in cases(39, 300, 6, ("turn",), 1):
            made = Facts(regions, facts)
            self.assertIs(alike(made, Row(one), Row(other)), plain_rows.alike(patches, one, other))
            self.assertEqual(hidden(made, Row(one)), plain_rows.hidden(patches, one))
            self.assertEqual(bare(made, Row(one)).deeds(), plain_rows.bare(patches, one))
            self.assertEqual(outcomes(Row(one), regions), plain_rows.outcomes(one, regions))


class Exchanges(Checked):
    def test_turns_ahead(self):
        for _, regions, _, _, deeds, _ in cases(41, 300, 8):
            ahead = turns_ahead(Row(deeds)).deeds()
            turns = [deed for deed in deeds if deed[0] == "turn"]
            others = [deed for deed in deeds if deed[0] != "turn"]
            self.assertEqual(ahead[:len(turns)], turns)
            for deed, was in zip(ahead[len(turns):], others):
                self.assertEqual((deed[0], deed[-1]), (was[0], was[-1]))
            self.assertEqual(len(ahead), len(deeds))
            self.assertTrue(plain_rows.alike(plain.all_patches(regions), deeds, ahead))

    def test_may_exchange(self):
        verdicts = {True: 0, False: 0}
        for _, regions, facts, patches, deeds, _ in cases(42, 300, 6):
            for at in range(len(deeds) - 1):
                told = may_exchange(Facts(regions, facts), Row(deeds), at)
                self.assertIs(told, plain_rows.may_exchange(patches, deeds[at], deeds[at + 1]))
                verdicts[told] += 1
        self.assertGreater(min(verdicts.values()), 100)

    def test_orders(self):
        several = 0
        for _, regions, facts, patches, deeds, _ in cases(43, 300, 6):
            made = Facts(regions, facts)
            orders = plain_rows.orders(patches, deeds)
            self.assertEqual(least_order(made, Row(deeds)).deeds(), min(orders))
            self.assertEqual(count_orders(made, Row(deeds)), len(orders))
            several += len(orders) > 2
        self.assertGreater(several, 80)

    def test_puts_alone(self):
        # Without facts, bared rows of puts are alike exactly if they come from one another by exchanges.
        same = 0
        for _, regions, _, _, one, other in cases(44, 300, 6, ("put",)):
            made = Facts(regions, [])
            bared = [bare(made, Row(deeds)) for deeds in (one, other)]
            orders = plain_rows.orders(plain.all_patches(regions), bared[0].deeds())
            self.assertIs(alike(made, Row(one), Row(other)), bared[1].deeds() in orders)
            self.assertEqual(least_order(made, bared[0]) == least_order(made, bared[1]), bared[1].deeds() in orders)
            same += bared[1].deeds() in orders
        self.assertGreater(same, 100)


class Hands(Checked):
    def things(self, patches, rows, firsts):
        """Return the first patch at which some order shows something else, with all things that they show."""
        for patch in patches:
            for first in firsts:
                told = plain_rows.shown_by_hands(rows, patch, first)
                if len(told) > 1:
                    return patch, told
        return None

    def test_two_hands(self):
        parted = 0
        for choice, regions, facts, patches, one, _ in cases(51, 400, 3, PAINTS):
            other = chance.some_deeds(choice, regions, 4, PAINTS)
            told = hands_part(Facts(regions, facts), Row(one), Row(other))
            self.assertEqual(told, self.things(patches, [one, other], [None]))
            parted += told is not None
            firsts = plain_rows.first_colours(one, other)
            self.assertEqual(told is None, self.things(patches, [one, other], firsts) is None)
        self.assertGreater(parted, 100)
        self.assertLess(parted, 300)

    def test_any_number_of_hands(self):
        verdicts = {True: 0, False: 0}
        for choice, regions, facts, patches, _, _ in cases(52, 400, 1):
            rows = [chance.some_deeds(choice, regions, 2, ("put", "wipe")) for _ in range(choice.randrange(4))]
            told = hands_agree(Facts(regions, facts), [Row(deeds) for deeds in rows])
            firsts = plain_rows.first_colours(*rows)
            verdicts[told is None] += 1
            self.assertEqual(told is None, self.things(patches, rows, firsts) is None)
            pairs = [(at, behind) for behind in range(len(rows)) for at in range(behind)]
            pairs = [
                (at, behind) for at, behind in sorted(pairs)
                if self.things(patches, [rows[at], rows[behind]], firsts) is not None
            ]
            self.assertEqual(told, pairs[0] if pairs else None)
        self.assertGreater(min(verdicts.values()), 60)

    def test_from_above(self):
        for _, regions, _, _, deeds, _ in cases(53, 200, 6, ("put",)):
            above = from_above(Row(deeds)).deeds()
            self.assertEqual(above, [("fill", *deed[1:]) for deed in reversed(deeds)])
            for patch in plain.all_patches(regions):
                self.assertEqual(plain_rows.done(above, patch, None), plain_rows.done(deeds, patch, None))

    def test_helping(self):
        helped = 0
        for _, regions, facts, _, one, other in cases(54, 500, 5):
            told = helping(Facts(regions, facts), Row(one), Row(other))
            self.assertEqual(told, plain_rows.helping(regions, facts, one, other))
            helped += bool(told)
        self.assertGreater(helped, 60)


if __name__ == "__main__":
    unittest.main()
