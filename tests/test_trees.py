"""[6.1] to [6.7]."""

import random
import unittest

from listasks.cells import FALSE, TRUE, and_of, cell_text, not_of
from listasks.forms import cell_of_form, tree_of_form
from listasks.lifting import lifted_cell
from listasks.trees import NONE, for_of, graft, leaf_of, leaves_of, parts_of, rebuilt, tree_fault, when, without_things
from listasks.words import read_form
from tests.helping import nested
from tests.making_trees import KINDS, TABLES, any_canonical, any_cell, any_rows, any_tree
from tests.treesref import all_leaves, canonical, inner, is_canonical, lifted, spelled, told

ONE = ("number", 1)
TWO = ("number", 2)
A = ("column", 0, "a")
B = ("column", 0, "b")
LEAF = ("leaf", (), ONE)
OTHER = ("leaf", (A,), TWO)
PAIR = ("parts", (LEAF, OTHER))
BARE = ("record", ())


def tree_of(text):
    return tree_of_form(read_form(text))


def cell_of(text):
    return cell_of_form(read_form(text))


class BuildingTest(unittest.TestCase):
    def test_none(self):
        self.assertEqual(NONE, ("none",))

    def test_for_of(self):
        self.assertEqual(for_of("emp", LEAF), ("for", "emp", LEAF))
        self.assertEqual(for_of("emp", PAIR), ("for", "emp", PAIR))
        self.assertEqual(for_of("emp", ("for", "emp", LEAF)), ("for", "emp", ("for", "emp", LEAF)))
        self.assertEqual(for_of("emp", NONE), NONE)

    def test_parts_of(self):
        inner_for = ("for", "emp", PAIR)
        cases = (
            ((), NONE), ((NONE,), NONE), ((NONE, NONE), NONE), ((LEAF,), LEAF), ((NONE, LEAF, NONE), LEAF),
            ((PAIR,), PAIR), ((NONE, PAIR), PAIR), ((LEAF, OTHER), PAIR), ((LEAF, LEAF), ("parts", (LEAF, LEAF))),
            ((OTHER, LEAF), ("parts", (OTHER, LEAF))), ((PAIR, LEAF), ("parts", (LEAF, OTHER, LEAF))),
            ((LEAF, NONE, PAIR, PAIR), ("parts", (LEAF, LEAF, OTHER, LEAF, OTHER))),
            ((inner_for, LEAF), ("parts", (inner_for, LEAF))), ((inner_for,), inner_for),
        )
        for trees, whole in cases:
            self.assertEqual(parts_of(trees), whole)
            self.assertEqual(parts_of(list(trees)), whole)

    def test_leaf_of(self):
        cases = (
            ((), ()), ((TRUE,), ()), ((B, A), (A, B)), ((A, A), (A,)), ((("and", B, A), A, TRUE), (A, B)),
            ((("and", A, ("and", TRUE, B)),), (A, B)), ((not_of(A), A), (A, not_of(A))),
        )
        for tests, row in cases:
            self.assertEqual(leaf_of(tests, ONE), ("leaf", row, ONE))
            self.assertEqual(leaf_of(list(tests), ONE), ("leaf", row, ONE))
        for tests in ((FALSE,), (A, FALSE), (FALSE, TRUE), (("and", A, FALSE), B)):
            self.assertEqual(leaf_of(tests, ONE), NONE)

    def test_lists_are_left_alone(self):
        trees, tests = [PAIR, NONE, LEAF], [("and", B, A), TRUE]
        whole = parts_of(trees)
        leaf_of(tests, ONE)
        self.assertEqual((trees, tests), ([PAIR, NONE, LEAF], [("and", B, A), TRUE]))
        trees.append(LEAF)
        self.assertEqual(whole, ("parts", (LEAF, OTHER, LEAF)))


class WhenTest(unittest.TestCase):
    def test_each_leaf_gets_the_test(self):
        tree = ("parts", (LEAF, ("leaf", (B,), TWO)))
        self.assertEqual(when(A, tree, 1), ("parts", (("leaf", (A,), ONE), ("leaf", (A, B), TWO))))
        self.assertEqual(when(A, OTHER, 1), OTHER)
        self.assertEqual(when(A, NONE, 1), NONE)
        self.assertEqual(when(("and", B, A), LEAF, 1), ("leaf", (A, B), ONE))

    def test_true_and_false_tests(self):
        for tree in (NONE, LEAF, PAIR, ("for", "emp", PAIR)):
            self.assertEqual(when(TRUE, tree, 1), tree)
            self.assertEqual(when(FALSE, tree, 1), NONE)
            self.assertEqual(when(("and", A, FALSE), tree, 1), NONE)

    def test_the_test_is_lifted_to_each_leaf(self):
        test = cell_of("(equal (column 0 a) (count (for t (leaf (tests (column 1 b)) (record)))))")
        tree = tree_of("(parts (leaf (tests) 1) (for emp (parts (leaf (tests) (column 1 a)) (for emp (leaf (tests) 3)))))")
        under = when(test, tree, 1)
        found = [(len(tables), tests) for _, tables, tests, _ in leaves_of(under, 1)]
        self.assertEqual(found, [(0, (test,)), (1, (lifted_cell(test, 1, 1),)), (2, (lifted_cell(test, 1, 2),))])
        self.assertEqual([thing for *_, thing in leaves_of(under, 1)], [ONE, ("column", 1, "a"), ("number", 3)])
        ten = when(("column", 10, "a"), ("leaf", (("column", 9, "a"),), ONE), 11)
        self.assertEqual(ten, ("leaf", (("column", 10, "a"), ("column", 9, "a")), ONE))

    def test_the_equations_by_chance(self):
        chance = random.Random(64)
        for _ in range(200):
            tables = tuple(chance.choice(TABLES) for _ in range(chance.randrange(3)))
            depth = len(tables)
            tree = any_canonical(chance, chance.choice(KINDS), tables)
            one, other = (canonical(any_cell(chance, "truth", tables, 3)) for _ in range(2))
            both = when(one, when(other, tree, depth), depth)
            self.assertEqual(when(other, when(one, tree, depth), depth), both)
            self.assertEqual(when(and_of(one, other), tree, depth), both)
            self.assertTrue(is_canonical(both))
            self.assertEqual(when(one, tree, depth), canonical(put_under(one, tree, depth, depth)))


def put_under(test, tree, depth, at):
    """The tree with the test, lifted from its depth, behind the tests of each leaf."""
    if tree[0] == "leaf":
        return ("leaf", tree[1] + (canonical(lifted(test, depth, at - depth)),), tree[2])
    if tree[0] == "for":
        return ("for", tree[1], put_under(test, tree[2], depth, at + 1))
    return inner(tree, lambda part: put_under(test, part, depth, at))


def any_function(chance, tables, kind):
    """A function for graft: for each depth, one tree and its thing's fields, made ahead."""
    made = {}

    def function(thing, depth):
        if depth not in made:
            rows = tables + ("emp",) * (depth - len(tables))
            made[depth] = [any_canonical(chance, kind, rows, 3) for _ in range(2)]
        return parts_of([made[depth][0], leaf_of((), thing), made[depth][1]])

    return function


class GraftTest(unittest.TestCase):
    def test_the_function_is_called_for_each_leaf(self):
        calls = []

        def function(thing, depth):
            calls.append((thing, depth))
            return leaf_of((), ("number", len(calls)))

        tree = tree_of("(parts (leaf (tests) 5) (for emp (parts (leaf (tests (column 2 a)) 6) (for t (leaf (tests) 7)))) (leaf (tests) 8))")
        due = tree_of("(parts (leaf (tests) 1) (for emp (parts (leaf (tests (column 2 a)) 2) (for t (leaf (tests) 3)))) (leaf (tests) 4))")
        self.assertEqual(graft(tree, 2, function), due)
        self.assertEqual(calls, [(("number", 5), 2), (("number", 6), 3), (("number", 7), 4), (("number", 8), 2)])
        self.assertEqual(graft(NONE, 2, function), NONE)
        self.assertEqual(len(calls), 4)

    def test_the_tree_stands_under_the_tests_of_the_leaf(self):
        tree = tree_of("(for emp (leaf (tests (column 0 boss)) 5))")
        told = graft(tree, 0, lambda thing, depth: tree_of("(for t (parts (leaf (tests (column 0 age)) 1) (leaf (tests) 2)))"))
        self.assertEqual(told, tree_of("(for emp (for t (parts (leaf (tests (column 0 age) (column 0 boss)) 1)"
                                       " (leaf (tests (column 0 boss)) 2))))"))

    def test_for_and_parts_around_are_made_anew(self):
        tree = tree_of("(parts (for emp (parts (leaf (tests) 1) (leaf (tests) 2))) (leaf (tests) 1))")
        self.assertEqual(graft(tree, 0, lambda thing, depth: NONE), NONE)
        self.assertEqual(graft(tree, 0, lambda thing, depth: leaf_of((), thing) if thing == ONE else NONE),
                         tree_of("(parts (for emp (leaf (tests) 1)) (leaf (tests) 1))"))
        self.assertEqual(graft(tree, 0, lambda thing, depth: leaf_of((), thing) if thing == TWO else NONE),
                         tree_of("(for emp (leaf (tests) 2))"))
        self.assertEqual(graft(PAIR, 1, lambda thing, depth: ("parts", (LEAF, ("for", "t", LEAF)))),
                         ("parts", (LEAF, ("for", "t", LEAF), ("leaf", (A,), ONE), ("for", "t", ("leaf", (A,), ONE)))))
        tests = tree_of("(leaf (tests (column 0 boss)) 5)")
        self.assertEqual(graft(tests, 0, lambda thing, depth: NONE), NONE)

    def test_the_equations_by_chance(self):
        chance = random.Random(65)
        for _ in range(150):
            tables = tuple(chance.choice(TABLES) for _ in range(chance.randrange(3)))
            depth = len(tables)
            tree = any_canonical(chance, chance.choice(KINDS), tables)
            test = canonical(any_cell(chance, "truth", tables, 3))
            f, g = any_function(chance, tables, "int"), any_function(chance, tables, "text")
            self.assertEqual(graft(tree, depth, lambda thing, at: ("leaf", (), thing)), tree)
            twice = graft(graft(tree, depth, f), depth, g)
            self.assertEqual(graft(tree, depth, lambda thing, at: graft(f(thing, at), at, g)), twice)
            self.assertEqual(when(test, graft(tree, depth, f), depth), graft(when(test, tree, depth), depth, f))
            self.assertTrue(is_canonical(twice))

    def test_values_by_chance(self):
        chance = random.Random(66)
        for _ in range(100):
            tree = any_canonical(chance, "int")
            store = any_rows(chance)
            whole = graft(tree, 0, lambda thing, at: parts_of([leaf_of((), thing), leaf_of((), ("plus", thing, ONE))]))
            numbers = told(("list", tree), (), store)
            self.assertEqual(told(("list", whole), (), store), [n + k for n in numbers for k in (0, 1)])


class LeavesTest(unittest.TestCase):
    def test_without_things(self):
        cases = (
            (NONE, NONE), (LEAF, ("leaf", (), BARE)), (PAIR, ("parts", (("leaf", (), BARE), ("leaf", (A,), BARE)))),
            (("for", "emp", ("leaf", (A,), ("list", PAIR))), ("for", "emp", ("leaf", (A,), BARE))),
        )
        for tree, bare in cases:
            self.assertEqual(without_things(tree), bare)

    def test_leaves_of(self):
        self.assertEqual(leaves_of(NONE), ())
        self.assertEqual(leaves_of(NONE, 3), ())
        self.assertEqual(leaves_of(OTHER), (((), (), (A,), TWO),))
        self.assertEqual(leaves_of(OTHER, 5), (((), (), (A,), TWO),))
        tree = ("parts", (("for", "emp", ("parts", (LEAF, ("for", "dept", OTHER)))), LEAF))
        for depth in (0, 3):
            self.assertEqual(leaves_of(tree, depth), (
                ((("part", 0), ("row", depth), ("part", 0)), ("emp",), (), ONE),
                ((("part", 0), ("row", depth), ("part", 1), ("row", depth + 1)), ("emp", "dept"), (A,), TWO),
                ((("part", 1),), (), (), ONE),
            ))
        self.assertEqual(leaves_of(tree), leaves_of(tree, 0))

    def test_by_chance(self):
        chance = random.Random(67)
        for _ in range(200):
            tree = any_canonical(chance, chance.choice(KINDS))
            depth = chance.randrange(4)
            self.assertEqual(leaves_of(tree, depth), tuple(all_leaves(tree, depth)))
            bare = tuple((items, tables, tests, BARE) for items, tables, tests, _ in all_leaves(tree, depth))
            self.assertEqual(leaves_of(without_things(tree), depth), bare)


# Loose trees, what is wrong with them first, and what they are made.
FAULTS = (
    ("(none)", None, "(none)"),
    ("(leaf (tests) 1)", None, "(leaf (tests) 1)"),
    ("(for t (none))", ((), "none"), "(none)"),
    ("(for t (for u (none)))", ((("row", 0),), "none"), "(none)"),
    ("(for t (for u (leaf (tests (column 9 a) (column 10 a)) 1)))", ((("row", 0), ("row", 1)), "tests"),
     "(for t (for u (leaf (tests (column 10 a) (column 9 a)) 1)))"),
    ("(parts (leaf (tests) 1) (none))", ((), "none"), "(leaf (tests) 1)"),
    ("(parts (none) (none))", ((), "none"), "(none)"),
    ("(parts (none) (parts (leaf (tests) 1) (leaf (tests) 2)))", ((), "nested"), "(parts (leaf (tests) 1) (leaf (tests) 2))"),
    ("(parts (leaf (tests) 1) (parts (leaf (tests) 2) (none)))", ((), "nested"), "(parts (leaf (tests) 1) (leaf (tests) 2))"),
    ("(parts (leaf (tests) 1) (for t (parts (leaf (tests) 2) (none))))", ((("part", 1), ("row", 0)), "none"),
     "(parts (leaf (tests) 1) (for t (leaf (tests) 2)))"),
    ("(parts (leaf (tests) 1) (for t (none)))", ((("part", 1),), "none"), "(leaf (tests) 1)"),
    ("(parts (for t (none)) (leaf (tests (truth no)) 1))", ((("part", 0),), "none"), "(none)"),
    ("(leaf (tests (truth yes)) 1)", ((), "split"), "(leaf (tests) 1)"),
    ("(leaf (tests (truth no)) 1)", ((), "split"), "(none)"),
    ("(for t (leaf (tests (column 0 a) (truth no)) 1))", ((("row", 0),), "split"), "(none)"),
    ("(leaf (tests (and (column 0 b) (column 0 a))) 1)", ((), "split"), "(leaf (tests (column 0 a) (column 0 b)) 1)"),
    ("(leaf (tests (column 0 b) (and (column 0 a) (truth yes))) 1)", ((), "split"), "(leaf (tests (column 0 a) (column 0 b)) 1)"),
    ("(leaf (tests (column 0 b) (column 0 a)) 1)", ((), "tests"), "(leaf (tests (column 0 a) (column 0 b)) 1)"),
    ("(leaf (tests (column 0 a) (column 0 a)) 1)", ((), "tests"), "(leaf (tests (column 0 a)) 1)"),
    ("(leaf (tests (or (truth yes) (and (column 0 b) (column 0 a)))) 1)", None,
     "(leaf (tests (or (truth yes) (and (column 0 b) (column 0 a)))) 1)"),
    ("(leaf (tests) (count (for t (none))))", ((), "inside"), "(leaf (tests) (count (none)))"),
    ("(leaf (tests (empty (for t (none)))) 1)", ((), "inside"), "(leaf (tests (empty (none))) 1)"),
    ("(leaf (tests (column 0 b) (empty (for t (none)))) 1)", ((), "inside"), "(leaf (tests (column 0 b) (empty (none))) 1)"),
    ("(leaf (tests (column 0 b) (column 0 a)) (list (for t (none))))", ((), "tests"),
     "(leaf (tests (column 0 a) (column 0 b)) (list (none)))"),
    ("(leaf (tests (truth yes) (column 0 b) (column 0 a)) 1)", ((), "split"), "(leaf (tests (column 0 a) (column 0 b)) 1)"),
    ("(leaf (tests) (record a 1 b (list (leaf (tests) (list (leaf (tests (truth yes)) 1))))))", ((), "inside"),
     "(leaf (tests) (record a 1 b (list (leaf (tests) (list (leaf (tests) 1))))))"),
    ("(parts (leaf (tests) (plus 1 (total (leaf (tests (column 0 b) (column 0 a)) 1)))) (for t (none)))",
     ((("part", 0),), "inside"), "(leaf (tests) (plus 1 (total (leaf (tests (column 0 a) (column 0 b)) 1))))"),
    ("(leaf (tests (empty (leaf (tests (column 0 b) (column 0 a)) (record))) (not (empty (for t (none))))) 1)", ((), "inside"),
     "(leaf (tests (empty (leaf (tests (column 0 a) (column 0 b)) (record))) (not (empty (none)))) 1)"),
)


class LooseTest(unittest.TestCase):
    def test_faults(self):
        for text, fault, good in FAULTS:
            with self.subTest(text=text):
                self.assertEqual(tree_fault(tree_of(text)), fault)
                self.assertEqual(rebuilt(tree_of(text)), tree_of(good))
                self.assertIsNone(tree_fault(tree_of(good)))

    def test_parts_that_are_too_few(self):
        for tree, fault, good in (
            (("parts", ()), ((), "parts"), NONE),
            (("parts", (LEAF,)), ((), "parts"), LEAF),
            (("parts", (NONE,)), ((), "parts"), NONE),
            (("parts", (("parts", ()),)), ((), "parts"), NONE),
            (("for", "t", ("parts", ())), ((("row", 0),), "parts"), NONE),
            (("parts", (LEAF, ("parts", ()), NONE)), ((), "nested"), LEAF),
            (("parts", (LEAF, ("for", "t", ("parts", (LEAF,))))), ((("part", 1), ("row", 0)), "parts"),
             ("parts", (LEAF, ("for", "t", LEAF)))),
            (("leaf", (), ("list", ("parts", ()))), ((), "inside"), ("leaf", (), ("list", NONE))),
        ):
            self.assertEqual(tree_fault(tree), fault)
            self.assertEqual(rebuilt(tree), good)

    def test_tests_whose_trees_change_are_sorted_anew(self):
        tree = ("leaf", (("empty", ("leaf", (), BARE)), ("empty", ("parts", (LEAF,)))), ONE)
        self.assertEqual([cell_text(test) for test in rebuilt(tree)[1]],
                         ["(empty (leaf (tests) (record)))", "(empty (leaf (tests) 1))"])
        tree = ("leaf", (("empty", NONE), ("empty", ("parts", ()))), ONE)
        self.assertEqual(rebuilt(tree), ("leaf", (("empty", NONE),), ONE))

    def test_by_chance(self):
        chance = random.Random(68)
        good = 0
        for _ in range(500):
            tree = any_tree(chance, chance.choice(KINDS), (), 4)
            store = any_rows(chance)
            made = rebuilt(tree)
            self.assertEqual(made, canonical(tree))
            self.assertEqual(tree_fault(tree) is None, is_canonical(tree))
            self.assertIsNone(tree_fault(made))
            self.assertEqual(rebuilt(made), made)
            self.assertEqual(told(("list", made), (), store), told(("list", tree), (), store))
            good += tree == made
        self.assertGreater(good, 50)

    def test_the_first_fault_by_chance(self):
        chance = random.Random(69)
        for _ in range(500):
            tree = any_tree(chance, chance.choice(KINDS), (), 4)
            self.assertEqual(tree_fault(tree), next(iter(all_faults(tree, (), 0)), None))

    def test_deep_trees(self):
        tree = nested(3000, lambda part: ("for", "t", part), PAIR)
        self.assertIsNone(tree_fault(tree))
        self.assertEqual(rebuilt(tree)[0], "for")
        self.assertEqual(when(FALSE, tree, 0), NONE)
        self.assertEqual(len(leaves_of(tree)[1][0]), 3001)
        self.assertEqual(leaves_of(when(A, tree, 1))[0][2], (A,))
        loose = nested(3000, lambda part: ("for", "t", part), NONE)
        self.assertEqual(len(tree_fault(loose)[0]), 2999)
        self.assertEqual(rebuilt(loose), NONE)
        things = nested(900, lambda part: ("leaf", (), ("list", part)), NONE)
        self.assertIsNone(tree_fault(things))
        self.assertEqual(rebuilt(things)[0], "leaf")

    def test_many_leaves(self):
        whole = parts_of([LEAF] * 4000)
        self.assertEqual(len(leaves_of(when(A, whole, 1))), 4000)
        self.assertEqual(len(set(thing for *_, thing in leaves_of(graft(whole, 0, counted())))), 4000)


def counted():
    numbers = iter(range(4000))
    return lambda thing, depth: leaf_of((), ("number", next(numbers)))


def all_faults(tree, items, row):
    """The faults of a loose tree in order, told by calling."""
    if tree[0] == "for":
        if tree[2] == NONE:
            yield (items, "none")
        yield from all_faults(tree[2], items + (("row", row),), row + 1)
    if tree[0] == "parts":
        words = [part[0] for part in tree[1]]
        for word, bad in (("parts", len(words) < 2), ("nested", "parts" in words), ("none", "none" in words)):
            if bad:
                yield (items, word)
        for k, part in enumerate(tree[1]):
            yield from all_faults(part, items + (("part", k),), row)
    if tree[0] == "leaf":
        texts = [spelled(test) for test in tree[1]]
        if {test[0] for test in tree[1]} & {"and", "truth"}:
            yield (items, "split")
        if texts != sorted(set(texts)):
            yield (items, "tests")
        if not is_canonical(("record", tuple(("a", part) for part in tree[1] + (tree[2],)))):
            yield (items, "inside")


if __name__ == "__main__":
    unittest.main()
