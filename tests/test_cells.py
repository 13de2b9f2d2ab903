"""[7.1] to [7.5], the texts of [7.4]."""

import random
import unittest

from listasks.cells import (
    FALSE,
    TRUE,
    and_of,
    cell_form,
    cell_text,
    if_of,
    merged_tests,
    not_of,
    or_of,
    tests_of,
    thing_form,
    thing_text,
    tree_form,
    tree_text,
)
from listasks.words import print_form
from tests.helping import nested
from tests.making_trees import KINDS, any_cell, any_thing, any_tree
from tests.treesref import row_of_tests, spelled

A = ("column", 0, "a")
B = ("column", 1, "b")
EMPTY = ("empty", ("none",))


class FoldingTest(unittest.TestCase):
    def test_the_truths(self):
        self.assertEqual((TRUE, FALSE), (("truth", True), ("truth", False)))

    def test_not_of(self):
        self.assertEqual(not_of(TRUE), FALSE)
        self.assertEqual(not_of(FALSE), TRUE)
        self.assertEqual(not_of(A), ("not", A))
        self.assertEqual(not_of(("not", A)), ("not", ("not", A)))

    def test_and_of(self):
        cases = (
            (A, B, ("and", A, B)), (A, FALSE, FALSE), (FALSE, A, FALSE), (TRUE, A, A), (A, TRUE, A),
            (TRUE, TRUE, TRUE), (TRUE, FALSE, FALSE), (FALSE, TRUE, FALSE), (FALSE, FALSE, FALSE),
            (A, A, ("and", A, A)), (("and", A, B), A, ("and", ("and", A, B), A)),
        )
        for a, b, whole in cases:
            self.assertEqual(and_of(a, b), whole)

    def test_or_of(self):
        cases = (
            (A, B, ("or", A, B)), (A, TRUE, TRUE), (TRUE, A, TRUE), (FALSE, A, A), (A, FALSE, A),
            (FALSE, FALSE, FALSE), (TRUE, FALSE, TRUE), (FALSE, TRUE, TRUE), (A, A, ("or", A, A)),
        )
        for a, b, whole in cases:
            self.assertEqual(or_of(a, b), whole)

    def test_if_of(self):
        self.assertEqual(if_of(TRUE, A, B), A)
        self.assertEqual(if_of(FALSE, A, B), B)
        self.assertEqual(if_of(EMPTY, A, B), ("if", EMPTY, A, B))
        self.assertEqual(if_of(EMPTY, A, A), ("if", EMPTY, A, A))
        self.assertEqual(if_of(EMPTY, TRUE, FALSE), ("if", EMPTY, TRUE, FALSE))

    def test_nothing_else_is_folded(self):
        one = ("equal", ("number", 1), ("number", 1))
        self.assertEqual(and_of(one, EMPTY), ("and", one, EMPTY))
        self.assertEqual(or_of(one, EMPTY), ("or", one, EMPTY))
        self.assertEqual(not_of(one), ("not", one))
        self.assertEqual(if_of(one, A, B), ("if", one, A, B))


class TextsTest(unittest.TestCase):
    def test_cells(self):
        cases = (
            (("number", 0), 0, "0"),
            (("number", -12), -12, "-12"),
            (("text", "a b"), ("text", "a b"), '"a b"'),
            (TRUE, ("truth", "yes"), "(truth yes)"),
            (FALSE, ("truth", "no"), "(truth no)"),
            (("column", 12, "who"), ("column", 12, "who"), "(column 12 who)"),
            (("plus", ("number", 1), A), ("plus", 1, A), "(plus 1 (column 0 a))"),
            (("not", ("less", A, B)), ("not", ("less", A, B)), "(not (less (column 0 a) (column 1 b)))"),
            (("if", TRUE, A, ("number", 3)), ("if", ("truth", "yes"), A, 3), "(if (truth yes) (column 0 a) 3)"),
            (("count", ("none",)), ("count", ("none",)), "(count (none))"),
        )
        for cell, form, text in cases:
            self.assertEqual(cell_form(cell), form)
            self.assertEqual(cell_text(cell), text)
            self.assertEqual(thing_form(cell), form)
            self.assertEqual(thing_text(cell), text)

    def test_trees(self):
        leaf = ("leaf", (A, B), ("record", (("a", ("number", 1)), ("b", ("list", ("none",))))))
        form = ("leaf", ("tests", A, B), ("record", "a", 1, "b", ("list", ("none",))))
        text = "(leaf (tests (column 0 a) (column 1 b)) (record a 1 b (list (none))))"
        bare = "(leaf (tests) (record))"
        cases = (
            (("none",), ("none",), "(none)"),
            (leaf, form, text),
            (("leaf", (), ("record", ())), ("leaf", ("tests",), ("record",)), bare),
            (("for", "emp", leaf), ("for", "emp", form), f"(for emp {text})"),
            (("parts", (leaf, ("none",))), ("parts", form, ("none",)), f"(parts {text} (none))"),
        )
        for tree, due, spelling in cases:
            self.assertEqual(tree_form(tree), due)
            self.assertEqual(tree_text(tree), spelling)
            self.assertEqual(cell_text(("total", tree)), f"(total {spelling})")
            self.assertEqual(thing_form(("list", tree)), ("list", due))
            self.assertEqual(thing_text(("list", tree)), f"(list {spelling})")

    def test_the_example(self):
        cell = ("count", ("for", "emp", ("leaf", (("equal", ("column", 1, "dept"), ("column", 0, "name")),),
                                         ("record", ()))))
        text = "(count (for emp (leaf (tests (equal (column 1 dept) (column 0 name))) (record))))"
        self.assertEqual(cell_text(cell), text)

    def test_many_by_chance(self):
        chance = random.Random(71)
        for _ in range(300):
            kind = chance.choice(KINDS)
            cell = any_cell(chance, "truth", TABLES, 4)
            thing = any_thing(chance, kind, TABLES, 3)
            tree = any_tree(chance, kind, TABLES, 4)
            self.assertEqual((cell_text(cell), thing_text(thing), tree_text(tree)),
                             (spelled(cell), spelled(thing), spelled(tree)))
            self.assertEqual(cell_text(cell), print_form(cell_form(cell)))
            self.assertEqual(thing_text(thing), print_form(thing_form(thing)))
            self.assertEqual(tree_text(tree), print_form(tree_form(tree)))

    def test_deep_and_wide(self):
        cell = nested(99, lambda part: ("plus", part, ("number", 1)), ("number", 0))
        self.assertEqual(cell_text(cell), "(plus " * 99 + "0" + " 1)" * 99)
        tree = nested(3000, lambda part: ("for", "emp", part), ("leaf", (), ("number", 1)))
        self.assertEqual(tree_text(tree), "(for emp " * 3000 + "(leaf (tests) 1)" + ")" * 3000)


TABLES = ("emp", "dept")


class RowsOfTestsTest(unittest.TestCase):
    def test_tests_of(self):
        cases = (
            (A, (A,)), (TRUE, ()), (FALSE, (FALSE,)), (("and", B, A), (A, B)), (("and", A, A), (A,)),
            (("and", A, ("and", TRUE, ("and", B, EMPTY))), (A, B, EMPTY)),
            (("and", ("and", A, FALSE), B), (FALSE,)),
            (("not", ("and", A, B)), (("not", ("and", A, B)),)),
            (("or", A, TRUE), (("or", A, TRUE),)),
            (("not", FALSE), (("not", FALSE),)),
        )
        for cell, row in cases:
            self.assertEqual(tests_of(cell), row)

    def test_merged_tests(self):
        cases = (
            ((), (), ()), ((A,), (), (A,)), ((), (A,), (A,)), ((B,), (A,), (A, B)), ((A, B), (B, A), (A, B)),
            ((TRUE,), (TRUE,), ()), ((A,), (FALSE,), (FALSE,)), ((FALSE, A), (B,), (FALSE,)),
            ((A, ("and", B, FALSE)), (), (FALSE,)), ((TRUE, A), (("and", TRUE, B),), (A, B)),
        )
        for one, other, row in cases:
            self.assertEqual(merged_tests(one, other), row)
            self.assertEqual(merged_tests(list(one), list(other)), row)

    def test_they_ascend_by_text(self):
        nine, ten = ("column", 9, "a"), ("column", 10, "a")
        self.assertEqual(merged_tests((nine,), (ten,)), (ten, nine))
        self.assertEqual(merged_tests((("not", A), A), (EMPTY,)), (A, EMPTY, ("not", A)))

    def test_lists_are_left_alone(self):
        one, other = [B, ("and", B, A)], [FALSE]
        merged_tests(one, other)
        self.assertEqual((one, other), ([B, ("and", B, A)], [FALSE]))

    def test_many_by_chance(self):
        chance = random.Random(75)
        for _ in range(300):
            tests = [any_cell(chance, "truth", TABLES, 3) for _ in range(chance.randrange(5))]
            cut = chance.randrange(len(tests) + 1)
            self.assertEqual(list(merged_tests(tests[:cut], tests[cut:])), row_of_tests(tests))
            for test in tests:
                self.assertEqual(list(tests_of(test)), row_of_tests([test]))


if __name__ == "__main__":
    unittest.main()
