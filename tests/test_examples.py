"""The examples of the document and those of the README, as written."""

import doctest
import os
import unittest

SETTING = """
>>> from coatrows.facts import Facts
>>> from coatrows.rows import Row
>>> facts = Facts(["a", "b", "c"], [("in", "a", "b"), ("apart", "b", "c")])
>>> row = Row([("put", "red", "b"), ("put", "blue", "a"), ("fill", "green", "c")])
>>> swapped = Row([("put", "blue", "a"), ("put", "red", "b"), ("fill", "green", "c")])
"""

FACTS = """
>>> facts.following()
[('in', 'a', 'b'), ('apart', 'a', 'c'), ('apart', 'b', 'c')]
>>> facts.way(("a", True), ("c", False)), facts.barred([("c", True), ("a", True)])
([('a', True), ('b', True), ('c', False)], [('a', True), ('b', True), ('c', False)])
>>> list(facts.patches([])), facts.least_patch([("c", False), ("b", True)]), ("apart", "c", "a") in facts
([[], ['c'], ['b'], ['a', 'b']], ['b'], True)
"""

ROWS = """
>>> from coatrows.rows import first_colours, shown
>>> shown(row, ["a", "b"], None), shown(row, ["c"], None), shown(row, ["c"], "red"), first_colours(row, Row([]))
('blue', 'green', 'red', [None, 'blue', 'green', 'red', 'a'])
>>> len(row + row), row.without(1)[1], row == Row(row.deeds())
(6, ('fill', 'green', 'c'), True)
"""

MAPS = """
>>> from coatrows.maps import drawn, facts_of, first_break, majority
>>> facts_of(["a", "b"], [[], ["b"], ["a", "b"]]).stated(), majority(["a", "b"], ["a"], ["b"], ["a", "b"])
([('in', 'a', 'b')], ['a', 'b'])
>>> facts_of(["a", "b", "c"], drawn(facts)) == facts, first_break(facts, [["b"], ["a"]])
(True, (1, 0))
"""

OUTCOMES = """
>>> from coatrows.outcomes import colours_on, outcomes, possible_outcomes
>>> outcomes(row, ["a", "b", "c"])[0], len(outcomes(row, ["a", "b", "c"])), len(possible_outcomes(facts, row))
(('coloured', None, None, [('a', False), ('b', False)], ()), 5, 5)
>>> colours_on(facts, row, [("b", True)], None), colours_on(facts, row, [], None)
(['blue', 'red'], [None, 'blue', 'green', 'red'])
"""

COMPARING = """
>>> from coatrows.comparing import alike, bare, compared, hidden
>>> alike(facts, row, swapped), compared(facts, row, swapped), hidden(facts, swapped)
(False, ('parted', ['a', 'b'], None), [0])
>>> bare(facts, swapped).deeds()
[('put', 'red', 'b'), ('fill', 'green', 'c')]
"""

HANDS = """
>>> from coatrows.hands import hands_agree, hands_part, helping
>>> hands_part(facts, Row([("put", "red", "a")]), Row([("put", "blue", "b")]))
(['a', 'b'], ['blue', 'red'])
>>> hands_part(facts, Row([("wipe", "b")]), Row([("fill", "red", "b"), ("fill", "blue", "a")]))
(['b'], [None, 'red'])
>>> hands_agree(facts, [Row([("put", "red", "a")]), Row([("put", "red", "b")]), Row([("wipe", "c")])])
>>> helping(facts, row, swapped)
[('in', 'a', 'c'), ('in', 'b', 'c'), ('apart', 'a', 'a'), ('apart', 'a', 'b'), ('apart', 'b', 'b'), ('cover', 'c', 'c')]
"""

MOVES = """
>>> from coatrows.moves import covers, moves, moves_hold
>>> paints = Row([("put", "blue", "a"), ("put", "red", "b")])
>>> covers(facts, paints, 0), covers(facts, paints, 1)
([1], None)
>>> moves_hold(facts, paints, Row([("put", "red", "b")]), [("take",)])
True
"""

DECIDING = """
>>> from coatrows.deciding import alike_on, deciding, needing
>>> deciding(facts), alike_on(deciding(facts), row, swapped)
([[], ['c'], ['b'], ['a', 'b']], False)
>>> one, other = needing(facts, ["b"])
>>> alike_on([[], ["c"], ["a", "b"]], one, other), alike_on([["b"]], one, other)
(True, False)
"""

SHEET = """
>>> from coatrows.sheet import Sheet
>>> sheet = Sheet(facts)
>>> sheet["b"] = "red"
>>> sheet["a"] = "blue"
>>> sheet["b"], sheet["a"], len(sheet.row)
(['blue', 'red'], ['blue'], 2)
>>> sheet.undo()
>>> sheet["b"], sheet.row.deeds()
(['red'], [('put', 'red', 'b')])
"""

TEXT = """
>>> from coatrows.text import fact_text, read_row, row_text
>>> row_text(row), fact_text(("in", "a", "b")), read_row("wipe on; wipe on on").deeds()
('red on b; blue on a; green under c', 'a in b', [('wipe', 'on'), ('put', 'wipe', 'on')])
"""

README = os.path.join(os.path.dirname(os.path.dirname(os.path.abspath(__file__))), "README.md")


class Examples(unittest.TestCase):
    def check(self, text):
        test = doctest.DocTestParser().get_doctest(text, {}, "examples", None, 0)
        self.assertGreater(len(test.examples), 0)
        told = []
        result = doctest.DocTestRunner(verbose=False).run(test, out=told.append)
        self.assertEqual(result.failed, 0, "".join(told))

    def test_facts(self):
        self.check(SETTING + FACTS)

    def test_rows(self):
        self.check(SETTING + ROWS)

    def test_maps(self):
        self.check(SETTING + MAPS)

    def test_outcomes(self):
        self.check(SETTING + OUTCOMES)

    def test_comparing(self):
        self.check(SETTING + COMPARING)

    def test_hands(self):
        self.check(SETTING + HANDS)

    def test_moves(self):
        self.check(SETTING + MOVES)

    def test_deciding(self):
        self.check(SETTING + DECIDING)

    def test_sheet(self):
        self.check(SETTING + SHEET)

    def test_text(self):
        self.check(SETTING + TEXT)

    def test_readme(self):
        with open(README, encoding="ascii") as file:
            self.check(file.read())


if __name__ == "__main__":
    unittest.main()
