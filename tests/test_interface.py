"""The interface: each name stands in its file, with its arguments in their order."""

import importlib
import inspect
import unittest

FUNCTIONS = {
    "texts": {"write": ["table"], "read": ["text"]},
    "tables": {
        "common": ["table", "things"],
        "having": ["table", "marks"],
        "closure": ["table", "marks"],
        "turned": ["table"],
    },
    "lectic": {
        "is_less": ["marks", "other"],
        "next_closed": ["table", "marks"],
        "closed_sets": ["table"],
    },
    "concepts": {
        "concepts": ["table"],
        "is_concept": ["table", "pair"],
        "of_thing": ["table", "thing"],
        "of_mark": ["table", "mark"],
        "meet": ["table", "concept", "other"],
        "join": ["table", "concept", "other"],
    },
    "neighbors": {
        "above": ["table", "concept"],
        "below": ["table", "concept"],
        "lattice_of": ["table"],
    },
    "lattices": {
        "is_order": ["order"],
        "is_lattice": ["lattice"],
        "join_of": ["lattice", "x", "y"],
        "meet_of": ["lattice", "x", "y"],
        "join_irreducible": ["lattice"],
        "meet_irreducible": ["lattice"],
    },
    "theorem": {
        "table_of": ["lattice"],
        "led": ["lattice"],
        "alike": ["lattice", "other"],
        "completion": ["order"],
    },
    "kinds": {
        "pentagon": ["lattice"],
        "diamond": ["lattice"],
        "kind": ["lattice"],
        "down_sets": ["order"],
        "irreducible_order": ["lattice"],
    },
    "reducing": {
        "needless_things": ["table"],
        "needless_marks": ["table"],
        "reduced": ["table"],
        "arrows": ["table"],
    },
    "implications": {
        "keeps": ["marks", "implication"],
        "broken_by": ["table", "implication"],
        "closed_under": ["implications", "marks"],
        "derivation": ["implications", "implication"],
        "is_derivation": ["implications", "implication", "numbers"],
        "is_base": ["table", "implications"],
    },
    "stem": {
        "pseudo_closed": ["table"],
        "stem": ["table"],
        "decide": ["table", "implication"],
        "direct": ["table"],
    },
    "rules": {
        "count": ["table", "marks"],
        "trust": ["table", "rule"],
        "luxenburger": ["table"],
        "trust_by": ["base", "whole", "marks", "other"],
    },
    "exploring": {"explore": ["many", "rows", "world"]},
    "congruences": {
        "is_congruence": ["lattice", "congruence"],
        "joined": ["lattice", "pairs"],
        "congruences": ["lattice"],
        "quotient": ["lattice", "congruence"],
        "is_simple": ["lattice"],
        "monolith": ["lattice"],
    },
    "products": {
        "product": ["lattice", "other"],
        "sum_of": ["table", "other"],
        "generated": ["lattice", "some"],
    },
}
CLASSES = {
    "errors": {
        "TextFault": ["line", "reason"],
        "AnswerFault": ["reason"],
        "ThingFault": ["reason"],
    },
    "exploring": {"Explorer": ["many", "rows"]},
    "keeping": {"Keeper": ["many"]},
}
# The methods that stand in the body of a class itself.
METHODS = {
    ("exploring", "Explorer"): {"question": [], "accept": [], "reject": ["row"]},
    ("keeping", "Keeper"): {"add": ["row"], "remove": ["thing"], "changed": ["thing", "row"]},
}
# What is set on an object when it is created.
FIELDS = (
    ("errors", "TextFault", (2, "unended"), ("line", "reason")),
    ("errors", "AnswerFault", ("no question",), ("reason",)),
    ("errors", "ThingFault", ("no such thing",), ("reason",)),
    ("exploring", "Explorer", (3, ()), ("table", "accepted")),
    ("keeping", "Keeper", (3,), ("table", "closed")),
)


class Interface(unittest.TestCase):
    def assert_listed(self, listed, is_kind):
        for file, names in listed.items():
            module = importlib.import_module(f"formalconcepts.{file}")
            for name, arguments in names.items():
                found = getattr(module, name)
                self.assertTrue(is_kind(found), name)
                self.assertEqual(found.__module__, module.__name__)
                self.assertEqual(list(inspect.signature(found).parameters), arguments, name)

    def test_functions(self):
        self.assert_listed(FUNCTIONS, inspect.isfunction)

    def test_classes(self):
        self.assert_listed(CLASSES, inspect.isclass)

    def test_methods(self):
        for (file, name), methods in METHODS.items():
            kind = getattr(importlib.import_module(f"formalconcepts.{file}"), name)
            for method, arguments in methods.items():
                self.assertIn(method, vars(kind))
                self.assertEqual(list(inspect.signature(vars(kind)[method]).parameters), ["self", *arguments], method)

    def test_fields(self):
        for file, name, arguments, fields in FIELDS:
            made = getattr(importlib.import_module(f"formalconcepts.{file}"), name)(*arguments)
            for field in fields:
                self.assertIn(field, vars(made))

    def test_the_base_of_the_errors(self):
        errors = importlib.import_module("formalconcepts.errors")
        self.assertTrue(inspect.isclass(errors.ConceptFault))
        self.assertEqual(errors.ConceptFault.__module__, "formalconcepts.errors")


if __name__ == "__main__":
    unittest.main()
