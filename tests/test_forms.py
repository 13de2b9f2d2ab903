"""[7.4]: what has a form."""

import random
import unittest

from listasks.cells import FALSE, TRUE, cell_form, thing_form, tree_form
from listasks.forms import cell_of_form, thing_of_form, tree_of_form
from tests.helping import nested
from tests.making_trees import KINDS, any_cell, any_thing, any_tree
from tests.treesref import canonical

COLUMN = ("column", 0, "a")
LEAF_FORM = ("leaf", ("tests",), 1)
LEAF = ("leaf", (), ("number", 1))
# Forms, and the cells that have them.
CELLS = (
    (0, ("number", 0)),
    (-7, ("number", -7)),
    (("text", "a"), ("text", "a")),
    (("text", ""), ("text", "")),
    (("truth", "yes"), TRUE),
    (("truth", "no"), FALSE),
    (COLUMN, COLUMN),
    (("column", 11, "who"), ("column", 11, "who")),
    (("plus", 1, 2), ("plus", ("number", 1), ("number", 2))),
    (("minus", 1, COLUMN), ("minus", ("number", 1), COLUMN)),
    (("times", 1, 2), ("times", ("number", 1), ("number", 2))),
    (("equal", ("text", "a"), 1), ("equal", ("text", "a"), ("number", 1))),
    (("less", 1, 2), ("less", ("number", 1), ("number", 2))),
    (("and", 1, 2), ("and", ("number", 1), ("number", 2))),
    (("or", 1, 2), ("or", ("number", 1), ("number", 2))),
    (("not", ("not", 1)), ("not", ("not", ("number", 1)))),
    (("if", 1, 2, ("truth", "no")), ("if", ("number", 1), ("number", 2), FALSE)),
    (("empty", ("none",)), ("empty", ("none",))),
    (("count", LEAF_FORM), ("count", LEAF)),
    (("total", ("for", "t", LEAF_FORM)), ("total", ("for", "t", LEAF))),
)
TREES = (
    (("none",), ("none",)),
    (LEAF_FORM, LEAF),
    (("leaf", ("tests", 1, COLUMN), ("record",)), ("leaf", (("number", 1), COLUMN), ("record", ()))),
    (("leaf", ("tests", ("truth", "yes")), ("list", LEAF_FORM)), ("leaf", (TRUE,), ("list", LEAF))),
    (("leaf", ("tests", COLUMN, COLUMN), 1), ("leaf", (COLUMN, COLUMN), ("number", 1))),
    (("for", "emp", ("none",)), ("for", "emp", ("none",))),
    (("parts", LEAF_FORM, ("none",)), ("parts", (LEAF, ("none",)))),
    (("parts", LEAF_FORM, LEAF_FORM, ("parts", LEAF_FORM, LEAF_FORM)), ("parts", (LEAF, LEAF, ("parts", (LEAF, LEAF))))),
)
THINGS = (
    (("record",), ("record", ())),
    (("record", "a", 1, "b", ("record",)), ("record", (("a", ("number", 1)), ("b", ("record", ()))))),
    (("record", "a", ("list", ("none",))), ("record", (("a", ("list", ("none",))),))),
    (("list", ("for", "t", LEAF_FORM)), ("list", ("for", "t", LEAF))),
)
# What is no form of a cell, of a tree or of a thing.
NOTHING = (
    True, False, None, "a", "yes", (), ((),), ("a",), ("number", 1), ("truth", "maybe"), ("truth",), ("truth", True),
    ("truth", "yes", "no"), ("text",), ("text", 1), ("text", "a", "b"), ("column", 0), ("column", 0, "a", "b"),
    ("column", -1, "a"), ("column", True, "a"), ("column", False, "a"), ("column", "a", 0), ("column", ("text", "a"), "a"),
    ("plus", 1), ("plus", 1, 2, 3), ("plus",), ("not",), ("not", 1, 2), ("if", 1, 2), ("if", 1, 2, 3, 4), ("equal", 1),
    ("plus", 1, True), ("plus", 1, ("none",)), ("not", LEAF_FORM), ("not", ("record",)), ("empty",), ("empty", 1),
    ("count", ("none",), ("none",)), ("total", ("list", ("none",))), ("none", 1), ("leaf", ("tests",)),
    ("leaf", ("tests",), 1, 2), ("leaf", (), 1), ("leaf", 1, 1), ("leaf", ("test",), 1), ("leaf", ("tests", ("none",)), 1),
    ("leaf", ("tests", ("record",)), 1), ("leaf", ("tests",), ("none",)), ("leaf", ("tests",), "a"), ("leaves", ("tests",), 1), ("for", "t"),
    ("for", "t", 1), ("for", "t", LEAF_FORM, LEAF_FORM), ("for", "t", ("list", ("none",))), ("parts",),
    ("parts", LEAF_FORM), ("parts", LEAF_FORM, 1), ("record", "a"), ("record", "a", 1, "b"), ("record", "b", 1, "a", 2),
    ("record", "a", 1, "a", 2), ("record", "a", ("none",)), ("list",), ("list", 1), ("list", ("none",), ("none",)),
    ("list", ("record",)), ("use", 1, 2), ("let", "x", 1, 2), ("one", 1),
)


class FormsTest(unittest.TestCase):
    def test_cells(self):
        for form, cell in CELLS:
            self.assertEqual(cell_of_form(form), cell)
            self.assertEqual(thing_of_form(form), cell)
            self.assertIsNone(tree_of_form(form))
            self.assertEqual(cell_form(cell), form)

    def test_trees(self):
        for form, tree in TREES:
            self.assertEqual(tree_of_form(form), tree)
            self.assertIsNone(cell_of_form(form))
            self.assertIsNone(thing_of_form(form))
            self.assertEqual(tree_form(tree), form)

    def test_things(self):
        for form, thing in THINGS:
            self.assertEqual(thing_of_form(form), thing)
            self.assertIsNone(cell_of_form(form))
            self.assertIsNone(tree_of_form(form))
            self.assertEqual(thing_form(thing), form)

    def test_what_is_no_form_of_any(self):
        for form in NOTHING:
            with self.subTest(form=form):
                self.assertIsNone(cell_of_form(form))
                self.assertIsNone(tree_of_form(form))
                self.assertIsNone(thing_of_form(form))
                self.assertIsNone(cell_of_form(("not", form)))
                self.assertIsNone(cell_of_form(("count", form)))
                self.assertIsNone(tree_of_form(("for", "t", form)))
                self.assertIsNone(tree_of_form(("leaf", ("tests", form), 1)))
                self.assertIsNone(tree_of_form(("leaf", ("tests",), form)))
                self.assertIsNone(thing_of_form(("record", "a", form)))
                self.assertIsNone(thing_of_form(("list", form)))

    def test_truths_are_no_integers(self):
        self.assertIs(cell_of_form(("truth", "yes"))[1], True)
        self.assertIs(cell_of_form(("truth", "no"))[1], False)
        self.assertIsNone(cell_of_form(True))

    def test_kinds_and_things_of_leaves_are_not_asked(self):
        form = ("count", ("leaf", ("tests", 1), ("list", LEAF_FORM)))
        self.assertEqual(cell_of_form(form), ("count", ("leaf", (("number", 1),), ("list", LEAF))))
        form = ("total", ("leaf", ("tests",), ("record", "a", 1)))
        self.assertEqual(cell_of_form(form), ("total", ("leaf", (), ("record", (("a", ("number", 1)),)))))

    def test_there_and_back_by_chance(self):
        chance = random.Random(74)
        for _ in range(300):
            kind = chance.choice(KINDS)
            cases = (
                (cell_form, cell_of_form, any_cell(chance, "int", ("emp", "dept"), 4)),
                (thing_form, thing_of_form, any_thing(chance, kind, ("emp", "dept"), 3)),
                (tree_form, tree_of_form, any_tree(chance, kind, ("emp", "dept"), 4)),
            )
            for form_of, back, node in cases:
                form = form_of(node)
                self.assertEqual(back(form), None if has_few_parts(form) else node)
                self.assertEqual(back(form_of(canonical(node))), canonical(node))

    def test_deep_forms(self):
        form = nested(3000, lambda part: ("for", "emp", part), LEAF_FORM)
        self.assertEqual(tree_form(tree_of_form(form))[:2], ("for", "emp"))
        self.assertIsNone(tree_of_form(nested(3000, lambda part: ("for", "emp", part), 1)))


def has_few_parts(form):
    """Whether a form holds `parts` with fewer than two trees."""
    if not isinstance(form, tuple):
        return False
    return form[:1] == ("parts",) and len(form) < 3 or any(has_few_parts(inner) for inner in form)


if __name__ == "__main__":
    unittest.main()
