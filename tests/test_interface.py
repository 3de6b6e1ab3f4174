"""The names and arguments of the interface, each defined in the file that lists it."""

import ast
import importlib
import inspect
import unittest

FUNCTIONS = {
    "maps": {
        "facts_of": "regions patches", "first_break": "facts patches", "majority": "regions one two three",
        "making": "regions patches patch", "making_holds": "regions patches patch steps", "drawn": "facts",
    },
    "rows": {"shown": "row patch first", "first_colours": "one other"},
    "outcomes": {
        "outcomes": "row regions", "possible_outcomes": "facts row", "outcome_at": "facts row patch first",
        "colours_on": "facts row claims first",
    },
    "comparing": {
        "alike": "facts one other", "compared": "facts one other", "compare_holds": "facts one other told",
        "hidden": "facts row", "bare": "facts row", "turns_ahead": "row", "may_exchange": "facts row index",
        "least_order": "facts row", "count_orders": "facts row",
    },
    "hands": {
        "hands_part": "facts one other", "hands_agree": "facts rows", "from_above": "row", "helping": "facts one other",
    },
    "moves": {"covers": "facts row index", "moves": "facts one other", "moves_hold": "facts one other told"},
    "deciding": {"deciding": "facts", "needing": "facts patch", "alike_on": "patches one other"},
    "text": {"fact_text": "fact", "read_facts": "regions lines", "row_text": "row", "read_row": "text"},
}
METHODS = {
    "facts": {
        "Facts": {
            "__init__": "regions facts", "regions": "", "stated": "", "following": "", "way": "claim other",
            "least_patch": "claims", "barred": "claims", "patches": "claims", "count_patches": "",
            "__contains__": "x", "__and__": "other", "__eq__": "other",
        },
    },
    "rows": {
        "Row": {
            "__init__": "deeds", "deeds": "", "regions": "", "colours": "", "without": "index", "__getitem__": "at",
            "__len__": "", "__add__": "other", "__eq__": "other",
        },
    },
    "sheet": {
        "Sheet": {
            "__init__": "facts", "__setitem__": "at worth", "__getitem__": "at", "__iadd__": "other", "__iter__": "",
            "undo": "", "trial": "", "tried": "row", "learn": "fact",
        },
    },
}


def defined_in(module):
    """Return the names of the functions and classes that the file of a module defines."""
    tree = ast.parse(inspect.getsource(module))
    return [node.name for node in tree.body if isinstance(node, (ast.FunctionDef, ast.ClassDef))]


class Interface(unittest.TestCase):
    def test_functions(self):
        for name, functions in FUNCTIONS.items():
            module = importlib.import_module("coatrows." + name)
            for function, arguments in functions.items():
                self.assertIn(function, defined_in(module))
                told = inspect.signature(getattr(module, function)).parameters.values()
                self.assertEqual([argument.name for argument in told], arguments.split())
                for argument in told:
                    self.assertEqual(argument.kind, inspect.Parameter.POSITIONAL_OR_KEYWORD)

    def test_methods(self):
        for name, classes in METHODS.items():
            module = importlib.import_module("coatrows." + name)
            for kind, methods in classes.items():
                self.assertIn(kind, defined_in(module))
                for method, arguments in methods.items():
                    told = inspect.signature(vars(getattr(module, kind))[method]).parameters.values()
                    self.assertEqual([argument.name for argument in told], ["self"] + arguments.split())

    def test_properties(self):
        sheet = importlib.import_module("coatrows.sheet").Sheet
        for name in ("row", "facts"):
            self.assertIsInstance(vars(sheet)[name], property)


if __name__ == "__main__":
    unittest.main()
