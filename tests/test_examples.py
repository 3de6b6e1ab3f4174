"""The examples of the document and those of the README, as written."""

import doctest
import os
import unittest

SETTING = """
>>> from coatrows.facts import Facts
>>> from coatrows.rows import Row
>>> facts = Facts(["a", "b", "c"], [("in", "a", "b"), ("apart", "b", "c")])
>>> row = Row([("put", "red", "b"), ("put", "blue", "a"), ("fill", "green", "c")])
>>> swapped = Row([("put", "blue", "a"), ("put", "red", "b"), ("fill", "green", "c")])
"""

FACTS = """
>>> facts.following()
[('in', 'a', 'b'), ('apart', 'a', 'c'), ('apart', 'b', 'c')]
>>> facts.way(("a", True), ("c", False)), facts.barred([("c", True), ("a", True)])
([('a', True), ('b', True), ('c', False)], [('a', True), ('b', True), ('c', False)])
>>> list(facts.patches([])), facts.least_patch([("c", False), ("b", True)]), ("apart", "c", "a") in facts
([[], ['c'], ['b'], ['a', 'b']], ['b'], True)
"""

ROWS = """
>>> from coatrows.rows import first_colours, shown
>>> shown(row, ["a", "b"], None), shown(row, ["c"], None), shown(row, ["c"], "red"), first_colours(row, Row([]))
('blue', 'green', 'red', [None, 'blue', 'green', 'red', 'a'])
>>> len(row + row), row.without(1)[1], row == Row(row.deeds())
(6, ('fill', 'green', 'c'), True)
"""

README = os.path.join(os.path.dirname(os.path.dirname(os.path.abspath(__file__))), "README.md")


class Examples(unittest.TestCase):
    def check(self, text):
        test = doctest.DocTestParser().get_doctest(text, {}, "examples", None, 0)
        self.assertGreater(len(test.examples), 0)
        told = []
        result = doctest.DocTestRunner(verbose=False).run(test, out=told.append)
        self.assertEqual(result.failed, 0, "".join(told))

    def test_facts(self):
        self.check(SETTING + FACTS)

    def test_rows(self):
        self.check(SETTING + ROWS)

    def test_readme(self):
        with open(README, encoding="ascii") as file:
            self.check(file.read())


if __name__ == "__main__":
    unittest.main()
