"""[7.6] and [7.7]."""

import random
import unittest

from listasks.lifting import lifted_cell, lifted_thing, lifted_tree, rows_spoken, tables_within
from listasks.stores import Store
from tests.helping import nested
from tests.making import HEADS
from tests.making_trees import KINDS, any_canonical, any_cell, any_choice, any_rows, any_thing
from tests.treesref import canonical, lifted, spelled, value_at

EXAMPLE = ("count", ("for", "emp", ("leaf", (("equal", ("column", 1, "dept"), ("column", 0, "name")),), ("record", ()))))


def column(row, name="a"):
    return ("column", row, name)


class LiftingTest(unittest.TestCase):
    def test_rows_from_the_depth_on_are_moved(self):
        cell = ("plus", column(0), ("times", column(1), column(2)))
        self.assertEqual(lifted_cell(cell, 0, 3), ("plus", column(3), ("times", column(4), column(5))))
        self.assertEqual(lifted_cell(cell, 1, 3), ("plus", column(0), ("times", column(4), column(5))))
        self.assertEqual(lifted_cell(cell, 2, 3), ("plus", column(0), ("times", column(1), column(5))))
        self.assertEqual(lifted_cell(cell, 3, 3), cell)
        self.assertEqual(lifted_cell(cell, 0, 0), cell)

    def test_the_example(self):
        def moved(own, outer):
            tests = (("equal", ("column", own, "dept"), ("column", outer, "name")),)
            return ("count", ("for", "emp", ("leaf", tests, ("record", ()))))

        self.assertEqual(lifted_cell(EXAMPLE, 0, 2), moved(3, 2))
        self.assertEqual(lifted_cell(EXAMPLE, 1, 2), moved(3, 0))
        self.assertEqual(rows_spoken(EXAMPLE, 1), (0,))
        self.assertEqual(tables_within(EXAMPLE), ("emp",))

    def test_things_and_trees(self):
        tree = ("for", "emp", ("parts", (("leaf", (column(0),), column(1)), ("leaf", (), column(0)))))
        up = ("for", "emp", ("parts", (("leaf", (column(2),), column(3)), ("leaf", (), column(2)))))
        self.assertEqual(lifted_tree(tree, 0, 2), up)
        self.assertEqual(lifted_thing(("list", tree), 0, 2), ("list", up))
        record = ("record", (("a", ("list", tree)), ("b", column(0)), ("c", ("number", 7))))
        self.assertEqual(lifted_thing(record, 0, 2),
                         ("record", (("a", ("list", up)), ("b", column(2)), ("c", ("number", 7)))))
        self.assertEqual(lifted_thing(column(4), 1, 1), column(5))
        self.assertEqual(lifted_tree(("none",), 0, 2), ("none",))
        self.assertEqual(lifted_cell(("count", tree), 0, 2), ("count", up))

    def test_tests_are_made_a_row_anew(self):
        # as texts, "10" stands ahead of "9"
        tree = ("leaf", (column(8), column(9)), ("number", 1))
        up = ("leaf", (column(10), column(9)), ("number", 1))
        self.assertEqual(lifted_tree(tree, 0, 1), up)
        self.assertEqual(lifted_cell(("total", tree), 0, 1), ("total", up))
        self.assertEqual(lifted_thing(("list", tree), 0, 1), ("list", up))
        inner = ("leaf", (), ("record", (("a", ("list", tree)),)))
        self.assertEqual(lifted_tree(inner, 0, 1), ("leaf", (), ("record", (("a", ("list", up)),))))
        within = ("leaf", (("equal", ("number", 1), ("count", tree)),), ("number", 1))
        self.assertEqual(lifted_tree(within, 0, 1), ("leaf", (("equal", ("number", 1), ("count", up)),), ("number", 1)))
        # moved apart, the first one only
        self.assertEqual(lifted_tree(("leaf", (column(8), column(9)), ("number", 1)), 9, 1),
                         ("leaf", (column(10), column(8)), ("number", 1)))

    def test_tests_around_take_the_order_of_what_is_within(self):
        def test_of(first, second):
            return ("empty", ("leaf", (first, second), ("record", ())))

        tree = ("leaf", (test_of(column(8, "b"), column(9, "z")), test_of(column(8, "c"), column(9, "a"))), column(0))
        up = ("leaf", (test_of(column(10, "a"), column(9, "c")), test_of(column(10, "z"), column(9, "b"))), column(0))
        self.assertEqual(lifted_tree(tree, 1, 1), up)

    def test_rows_are_put_in_by_chance(self):
        chance = random.Random(76)
        many = 0
        while many < 200:
            store = any_rows(chance)
            tables = tuple(chance.choice(("dept", "emp")) for _ in range(chance.randrange(4)))
            more = tuple(chance.choice(("dept", "emp")) for _ in range(chance.randrange(4)))
            choice, added = any_choice(chance, tables, store), any_choice(chance, more, store)
            if choice is None or added is None:
                continue
            many += 1
            cell = any_cell(chance, chance.choice(("int", "text", "truth")), tables, 4)
            depth = chance.randrange(len(tables) + 1)
            up = lifted_cell(cell, depth, len(added))
            self.assertEqual(value_at(up, choice[:depth] + added + choice[depth:], store), value_at(cell, choice, store))

    def test_like_moving_and_sorting_by_chance(self):
        chance = random.Random(77)
        for _ in range(300):
            kind = chance.choice(KINDS)
            tables = ("emp", "dept") * 5
            tree = any_canonical(chance, kind, tables[:chance.randrange(11)])
            depth, by, more = chance.randrange(11), chance.randrange(8), chance.randrange(3)
            up = lifted_tree(tree, depth, by)
            self.assertEqual(up, canonical(lifted(tree, depth, by)))
            self.assertEqual(lifted_thing(("list", tree), depth, by), ("list", up))
            self.assertEqual(lifted_tree(up, depth, more), lifted_tree(tree, depth, by + more))
            thing = canonical(any_thing(chance, kind, tables[:3], 3))
            self.assertEqual(lifted_thing(thing, depth, by), canonical(lifted(thing, depth, by)))

    def test_deep_trees(self):
        tree = nested(3000, lambda part: ("for", "emp", part), ("leaf", (), column(2999)))
        self.assertEqual(spelled(leaf_beneath(lifted_tree(tree, 0, 1))), "(leaf (tests) (column 3000 a))")


def leaf_beneath(tree):
    while tree[0] == "for":
        tree = tree[2]
    return tree


class SpokenTest(unittest.TestCase):
    def test_rows_spoken(self):
        cases = (
            (("number", 1), 4, ()),
            (column(2), 4, (2,)),
            (("plus", column(3), ("minus", column(0), column(3))), 4, (0, 3)),
            (("plus", column(11), ("plus", column(2), column(10))), 12, (2, 10, 11)),
            (("plus", column(3), column(1)), 3, (1,)),
            (("count", ("for", "t", ("leaf", (column(1), column(4)), ("record", ())))), 4, (1,)),
            (("total", ("for", "t", ("leaf", (("empty", ("leaf", (column(2),), ("record", ()))),), column(0)))), 4, (0, 2)),
        )
        for cell, depth, rows in cases:
            self.assertEqual(rows_spoken(cell, depth), rows)

    def test_tables_within(self):
        leaf = ("leaf", (), ("record", ()))
        twice = ("parts", (("for", "u", ("for", "t", leaf)), ("for", "t", leaf)))
        deep = ("for", "w", ("leaf", (("empty", ("for", "a", leaf)),), ("count", ("for", "b", leaf))))
        cases = (
            (column(0), ()), (("count", leaf), ()), (("count", twice), ("t", "u")),
            (("plus", ("count", twice), ("total", deep)), ("a", "b", "t", "u", "w")),
        )
        for cell, tables in cases:
            self.assertEqual(tables_within(cell), tables)

    def test_only_rows_spoken_matter(self):
        chance = random.Random(78)
        for _ in range(200):
            store = Store(HEADS)
            for number in range(4):
                store.put("dept", (chance.choice("ab"),))
                store.put("emp", (number, chance.random() < 0.5, chance.choice("ab")))
            tables = tuple(chance.choice(("dept", "emp")) for _ in range(3))
            cell = any_cell(chance, "int", tables, 4)
            choice = any_choice(chance, tables, store)
            other = any_choice(chance, tables, store)
            mixed = tuple(choice[row] if row in rows_spoken(cell, 3) else other[row] for row in range(3))
            self.assertEqual(value_at(cell, mixed, store), value_at(cell, choice, store))


if __name__ == "__main__":
    unittest.main()
