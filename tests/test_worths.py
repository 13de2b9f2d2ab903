"""[7.8] to [7.10]."""

import random
import unittest

from listasks.cells import FALSE, TRUE
from listasks.forms import cell_of_form, thing_of_form, tree_of_form
from listasks.stores import Store
from listasks.words import read_form
from listasks.worths import cell_kind, held, thing_fits, worth
from tests.helping import listed, nested, refusal
from tests.making import HEADS
from tests.making_trees import KINDS, TABLES, any_canonical, any_cell, any_choice, any_rows, any_thing
from tests.treesref import leaves_held, value_at


def cell_of(text):
    return cell_of_form(read_form(text))


def tree_of(text):
    return tree_of_form(read_form(text))


def small_store():
    """Rows dept 1 (a), 3 (b); emp 1 (5, yes, ann), 2 (7, no, bob), 4 (5, no, cy)."""
    store = Store(HEADS)
    for name in ("a", "x", "b"):
        store.put("dept", (name,))
    store.take("dept", 2)
    for cells in ((5, True, "ann"), (7, False, "bob"), (0, True, "x"), (5, False, "cy")):
        store.put("emp", cells)
    store.take("emp", 3)
    return store


EMP = (("emp", 2),)
BOTH = (("dept", 3), ("emp", 1))


class WorthTest(unittest.TestCase):
    def setUp(self):
        self.store = small_store()

    def test_cells(self):
        cases = (
            ("7", (), 7), ('"a b"', (), "a b"), ("(truth yes)", (), True), ("(truth no)", (), False),
            ("(column 0 age)", EMP, 7), ("(column 0 who)", EMP, "bob"), ("(column 0 boss)", EMP, False),
            ("(column 0 name)", BOTH, "b"), ("(column 1 boss)", BOTH, True),
            ("(plus (column 0 age) 3)", EMP, 10), ("(minus 3 (column 0 age))", EMP, -4), ("(times -2 (column 0 age))", EMP, -14),
            ("(equal (column 0 age) 7)", EMP, True), ("(equal 6 (column 0 age))", EMP, False),
            ('(equal (column 0 name) "b")', BOTH, True), ('(equal "a" (column 0 name))', BOTH, False),
            ("(equal (column 1 boss) (truth yes))", BOTH, True), ("(equal (column 1 boss) (truth no))", BOTH, False),
            ("(less 6 (column 0 age))", EMP, True), ("(less (column 0 age) 7)", EMP, False), ("(less 8 7)", (), False),
            ("(and (truth yes) (truth yes))", (), True), ("(and (truth yes) (truth no))", (), False),
            ("(and (truth no) (truth yes))", (), False), ("(or (truth no) (truth yes))", (), True),
            ("(or (truth yes) (truth no))", (), True), ("(or (truth no) (truth no))", (), False),
            ("(not (truth no))", (), True), ("(not (truth yes))", (), False),
            ("(if (truth yes) 1 2)", (), 1), ("(if (truth no) 1 2)", (), 2), ('(if (less 1 2) "x" "y")', (), "x"),
        )
        for text, choice, value in cases:
            with self.subTest(text=text):
                told = worth(cell_of(text), choice, self.store)
                self.assertEqual(told, value)
                self.assertIs(told.__class__, value.__class__)

    def test_cells_over_trees(self):
        cases = (
            ("(count (none))", (), 0), ("(empty (none))", (), True), ("(total (none))", (), 0),
            ("(count (leaf (tests) (record)))", (), 1), ("(empty (leaf (tests) (record)))", (), False),
            ("(count (for emp (leaf (tests) (record))))", (), 3),
            ("(total (for emp (leaf (tests) (column 0 age))))", (), 17),
            ("(total (for emp (leaf (tests (column 0 boss)) (column 0 age))))", (), 5),
            ("(total (for emp (leaf (tests (less 9 (column 0 age))) (column 0 age))))", (), 0),
            ("(empty (for emp (leaf (tests (less 9 (column 0 age))) (record))))", (), True),
            ("(count (for dept (for emp (leaf (tests) (record)))))", (), 6),
            ("(count (parts (for dept (leaf (tests) (record))) (leaf (tests (truth no)) (record))))", (), 2),
            ("(count (for emp (leaf (tests (equal (column 1 age) (column 0 age))) (record))))", (("emp", 1),), 2),
            ("(count (for emp (leaf (tests (less 1 (count (for emp (leaf (tests (equal (column 1 age) (column 0 age)))"
             " (record)))))) (record))))", (), 2),
            ("(total (parts (leaf (tests) 3) (leaf (tests) (count (for dept (leaf (tests) (record)))))))", (), 5),
        )
        for text, choice, value in cases:
            with self.subTest(text=text):
                self.assertEqual(worth(cell_of(text), choice, self.store), value)

    def test_no_row(self):
        cell = ("column", 0, "age")
        for number in (3, 5, 0, -1):
            self.assertEqual(refusal(worth, cell, (("emp", number),), self.store), ("NoRow", "emp", number))
        within = cell_of("(count (for dept (leaf (tests (less 1 (column 0 age))) (record))))")
        self.assertEqual(refusal(worth, within, (("emp", 3),), self.store), ("NoRow", "emp", 3))

    def test_the_other_arm_is_not_asked(self):
        gone = ("column", 0, "age")
        for cell in (("if", TRUE, ("number", 1), gone), ("if", FALSE, gone, ("number", 1))):
            self.assertEqual(worth(cell, (("emp", 3),), self.store), 1)
        self.assertEqual(refusal(worth, ("if", TRUE, gone, ("number", 1)), (("emp", 3),), self.store),
                         ("NoRow", "emp", 3))

    def test_places_of_which_it_does_not_speak_may_be_none(self):
        cell = cell_of("(plus (column 1 age) (count (for emp (leaf (tests (equal (column 3 age) (column 1 age))) (record)))))")
        self.assertEqual(worth(cell, (None, ("emp", 1), None), self.store), 7)
        self.assertEqual(worth(("number", 4), (None, None), self.store), 4)

    def test_by_chance(self):
        chance = random.Random(78)
        many = 0
        while many < 400:
            store = any_rows(chance)
            tables = tuple(chance.choice(TABLES) for _ in range(chance.randrange(3)))
            choice = any_choice(chance, tables, store)
            if choice is not None:
                many += 1
                cell = any_cell(chance, chance.choice(("int", "text", "truth")), tables, 4)
                before = store.copied()
                self.assertEqual(worth(cell, choice, store), value_at(cell, choice, store))
                self.assertEqual(worth(cell, listed(choice), store), value_at(cell, choice, store))
                self.assertEqual(store, before)

    def test_deep_cells(self):
        cell = nested(98, lambda part: ("plus", part, ("number", 1)), ("column", 0, "age"))
        self.assertEqual(worth(cell, EMP, self.store), 105)
        self.assertEqual(cell_kind(cell, HEADS, ("emp",)), "int")
        cell = nested(20, lambda part: ("count", ("leaf", (("equal", ("number", 1), part),), ("record", ()))), ("number", 1))
        self.assertEqual(worth(cell, (), self.store), 1)
        self.assertEqual(cell_kind(cell, HEADS, ()), "int")


class HeldTest(unittest.TestCase):
    def setUp(self):
        self.store = small_store()

    def held(self, text, choice=()):
        return list(held(tree_of(text), choice, self.store))

    def test_none_and_leaves(self):
        self.assertEqual(self.held("(none)"), [])
        self.assertEqual(self.held("(leaf (tests) 1)", EMP), [((), EMP, ("number", 1))])
        self.assertEqual(self.held("(leaf (tests (truth yes) (less 1 (column 0 age))) 1)", EMP), [((), EMP, ("number", 1))])
        self.assertEqual(self.held("(leaf (tests (truth yes) (less 9 (column 0 age))) 1)", EMP), [])
        self.assertEqual(self.held("(leaf (tests (truth no)) 1)"), [])

    def test_rows_by_ascending_number(self):
        self.assertEqual(self.held("(for emp (leaf (tests) (column 0 who)))"), [
            ((number,), (("emp", number),), ("column", 0, "who")) for number in (1, 2, 4)])
        self.assertEqual(self.held("(for emp (leaf (tests (equal 5 (column 1 age))) (column 0 name)))", (("dept", 3),)), [
            ((number,), (("dept", 3), ("emp", number)), ("column", 0, "name")) for number in (1, 4)])

    def test_parts_in_order(self):
        told = self.held("(parts (for dept (parts (leaf (tests) 1) (leaf (tests) 2))) (leaf (tests (truth no)) 3) (leaf (tests) 4))")
        one, two = (("dept", 1),), (("dept", 3),)
        self.assertEqual(told, [
            ((0, 1, 0), one, ("number", 1)), ((0, 1, 1), one, ("number", 2)),
            ((0, 3, 0), two, ("number", 1)), ((0, 3, 1), two, ("number", 2)),
            ((2,), (), ("number", 4))])

    def test_things_are_the_leaves_own(self):
        thing = ("record", (("a", ("list", ("none",))),))
        self.assertEqual(list(held(("leaf", (), thing), (), self.store)), [((), (), thing)])

    def test_by_chance(self):
        chance = random.Random(79)
        for _ in range(300):
            tree = any_canonical(chance, chance.choice(KINDS))
            store = any_rows(chance)
            self.assertEqual(list(held(tree, (), store)), leaves_held(tree, (), store))
            self.assertEqual(list(held(tree, [], store)), leaves_held(tree, (), store))

    def test_choices_of_lists(self):
        tree = tree_of("(for emp (leaf (tests (equal (column 0 name) \"a\")) (column 2 age)))")
        choice = [["dept", 1], None]
        told = list(held(tree, choice, self.store))
        self.assertEqual(choice, [["dept", 1], None])
        choice[0][1] = 9
        self.assertEqual(told, leaves_held(tree, (("dept", 1), None), self.store))
        self.assertEqual(len(told), 3)

    def test_deep_trees(self):
        tree = nested(3000, lambda part: ("for", "dept", part), ("leaf", (), ("number", 1)))
        self.store.take("dept", 3)
        (key, choice, _), = held(tree, (), self.store)
        self.assertEqual((key, choice), ((1,) * 3000, (("dept", 1),) * 3000))


# Cells over rows of dept and emp that do not fit, and the first one within that does not.
BAD_CELLS = (
    ("(column 2 age)", "(column 2 age)"),
    ("(column 0 age)", "(column 0 age)"),
    ("(column 1 name)", "(column 1 name)"),
    ("(plus 1 \"a\")", "(plus 1 \"a\")"),
    ("(plus (truth yes) 1)", "(plus (truth yes) 1)"),
    ("(minus (column 0 name) 1)", "(minus (column 0 name) 1)"),
    ("(times 1 (column 1 boss))", "(times 1 (column 1 boss))"),
    ("(less \"a\" \"b\")", "(less \"a\" \"b\")"),
    ("(less 1 (truth no))", "(less 1 (truth no))"),
    ("(equal 1 \"a\")", "(equal 1 \"a\")"),
    ("(equal (truth yes) 1)", "(equal (truth yes) 1)"),
    ("(and 1 (truth yes))", "(and 1 (truth yes))"),
    ("(and (truth yes) \"a\")", "(and (truth yes) \"a\")"),
    ("(or (truth yes) 1)", "(or (truth yes) 1)"),
    ("(or 0 (truth yes))", "(or 0 (truth yes))"),
    ("(not 1)", "(not 1)"),
    ("(if 1 2 3)", "(if 1 2 3)"),
    ("(if (truth yes) 2 \"a\")", "(if (truth yes) 2 \"a\")"),
    # inner ones first, from the left to the right
    ("(plus (not 1) (not 2))", "(not 1)"),
    ("(plus (truth yes) (not 2))", "(not 2)"),
    ("(if (not 1) (not 2) (not 3))", "(not 1)"),
    ("(if 1 (not 2) (not 3))", "(not 2)"),
    ("(not (not (not 3)))", "(not 3)"),
    # in trees: the table, then the tests, then the thing
    ("(count (for nil (leaf (tests (not 1)) (record))))", "(count (for nil (leaf (tests (not 1)) (record))))"),
    ("(empty (for emp (leaf (tests (not 1)) 5)))", "(not 1)"),
    ("(empty (for emp (leaf (tests 7) 5)))", "7"),
    ("(count (leaf (tests (column 0 name) (not 1)) (record)))", "(column 0 name)"),
    ("(count (leaf (tests (truth yes) (column 1 age)) (record)))", "(column 1 age)"),
    ("(count (for emp (leaf (tests (column 2 boss) (column 3 boss)) (record))))", "(column 3 boss)"),
    ("(count (leaf (tests) 5))", "(count (leaf (tests) 5))"),
    ("(empty (leaf (tests) (record a 1)))", "(empty (leaf (tests) (record a 1)))"),
    ("(empty (leaf (tests) (list (none))))", "(empty (leaf (tests) (list (none))))"),
    ("(count (leaf (tests) (not 1)))", "(count (leaf (tests) (not 1)))"),
    ("(total (leaf (tests) (record)))", "(total (leaf (tests) (record)))"),
    ("(total (leaf (tests) (list (none))))", "(total (leaf (tests) (list (none))))"),
    ("(total (leaf (tests) \"a\"))", "\"a\""),
    ("(total (leaf (tests) (truth yes)))", "(truth yes)"),
    ("(total (leaf (tests) (plus 1 (not 1))))", "(not 1)"),
    ("(total (leaf (tests) (column 1 who)))", "(column 1 who)"),
    ("(total (leaf (tests 5) (not 1)))", "5"),
    ("(total (parts (leaf (tests) 1) (leaf (tests) \"b\") (leaf (tests 5) 1)))", "\"b\""),
    ("(total (parts (for nil (leaf (tests) 1)) (leaf (tests) \"b\")))",
     "(total (parts (for nil (leaf (tests) 1)) (leaf (tests) \"b\")))"),
    ("(total (parts (leaf (tests) \"b\") (for nil (leaf (tests) 1))))", "\"b\""),
    ("(plus (count (for emp (for nil (none)))) (not 1))", "(count (for emp (for nil (none))))"),
    ("(total (leaf (tests) (count (for nil (none)))))", "(count (for nil (none)))"),
    ("(not (total (leaf (tests) (column 5 age))))", "(column 5 age)"),
)
GOOD_CELLS = (
    ("5", "int"), ("\"a\"", "text"), ("(truth no)", "truth"), ("(column 0 name)", "text"), ("(column 1 age)", "int"),
    ("(column 1 boss)", "truth"), ("(plus 1 (column 1 age))", "int"), ("(minus 1 2)", "int"), ("(times 1 2)", "int"),
    ("(less 1 2)", "truth"), ("(equal 1 2)", "truth"), ("(equal \"a\" (column 0 name))", "truth"),
    ("(equal (truth no) (column 1 boss))", "truth"), ("(and (truth no) (column 1 boss))", "truth"),
    ("(or (less 1 2) (truth no))", "truth"), ("(not (less 1 2))", "truth"), ("(if (truth yes) 1 2)", "int"),
    ("(if (truth yes) \"a\" \"b\")", "text"), ("(if (truth yes) (truth yes) (truth no))", "truth"),
    ("(empty (none))", "truth"), ("(count (none))", "int"), ("(total (none))", "int"),
    ("(count (for emp (for dept (leaf (tests (equal (column 2 who) (column 3 name))) (record)))))", "int"),
    ("(empty (for emp (leaf (tests (column 2 boss)) (record))))", "truth"),
    ("(total (for emp (leaf (tests) (plus (column 2 age) (column 1 age)))))", "int"),
)


class CellKindTest(unittest.TestCase):
    def test_good_cells(self):
        for text, kind in GOOD_CELLS:
            with self.subTest(text=text):
                self.assertEqual(cell_kind(cell_of(text), HEADS, ("dept", "emp")), kind)
                tables = ["dept", "emp"]
                self.assertEqual(cell_kind(cell_of(text), HEADS, tables), kind)
                self.assertEqual(tables, ["dept", "emp"])

    def test_bad_cells(self):
        for text, bad in BAD_CELLS:
            with self.subTest(text=text):
                self.assertEqual(refusal(cell_kind, cell_of(text), HEADS, ("dept", "emp")), ("BadCell", cell_of(bad)))

    def test_columns_of_no_row_or_table(self):
        self.assertEqual(refusal(cell_kind, ("column", 0, "age"), HEADS, ()), ("BadCell", ("column", 0, "age")))
        self.assertEqual(refusal(cell_kind, ("column", 0, "age"), HEADS, ("nil",)), ("BadCell", ("column", 0, "age")))
        self.assertEqual(refusal(cell_kind, ("column", -1, "age"), HEADS, ("emp",)), ("BadCell", ("column", -1, "age")))

    def test_kinds_by_chance(self):
        chance = random.Random(70)
        for _ in range(300):
            tables = tuple(chance.choice(TABLES) for _ in range(chance.randrange(3)))
            kind = chance.choice(("int", "text", "truth"))
            self.assertEqual(cell_kind(any_cell(chance, kind, tables, 5), HEADS, tables), kind)


class ThingFitsTest(unittest.TestCase):
    def fits(self, text, kind):
        return thing_fits(thing_of_form(read_form(text)), kind, HEADS, ("dept", "emp"))

    def test_things_that_fit(self):
        record = ("record", (("a", "int"), ("b", ("list", "text"))))
        for text, kind in GOOD_CELLS:
            self.assertIs(self.fits(text, kind), True)
        for text, kind in (
            ("(record)", ("record", ())),
            ("(record a 1 b (list (none)))", record),
            ("(record a (column 1 age) b (list (for emp (leaf (tests (column 2 boss)) (column 2 who)))))", record),
            ("(list (none))", ("list", "int")),
            ("(list (parts (leaf (tests) 1) (for dept (leaf (tests) 2))))", ("list", "int")),
            ("(list (leaf (tests) (list (for emp (leaf (tests) (record))))))", ("list", ("list", ("record", ())))),
        ):
            self.assertIs(self.fits(text, kind), True)

    def test_things_that_do_not(self):
        record = ("record", (("a", "int"), ("b", "text")))
        for text, kind in (
            ("1", "text"), ("1", "truth"), ("1", ("list", "int")), ("1", ("record", ())), ("\"a\"", "int"), ("(truth yes)", "int"),
            ("(record)", "int"), ("(list (none))", "int"), ("(record)", ("list", "int")), ("(list (none))", ("record", ())),
            ("(record a 1)", ("record", ())), ("(record)", record), ("(record a 1)", record), ("(record a 1 c \"b\")", record),
            ("(record a 1 b \"b\" c 1)", record), ("(record a \"a\" b \"b\")", record), ("(record a 1 b 2)", record),
            ("(list (leaf (tests) \"a\"))", ("list", "int")), ("(list (leaf (tests) (list (none))))", ("list", "int")),
            ("(list (leaf (tests 1) 1))", ("list", "int")), ("(list (leaf (tests (not 1)) 1))", ("list", "int")),
            ("(list (for nil (leaf (tests) 1)))", ("list", "int")), ("(list (for nil (none)))", ("list", "int")),
            ("(list (parts (leaf (tests) 1) (leaf (tests) (truth yes))))", ("list", "int")),
            ("(list (for emp (leaf (tests) (column 3 age))))", ("list", "int")),
            ("(list (for emp (leaf (tests) (list (leaf (tests) (column 3 age))))))", ("list", ("list", "int"))),
            ("(column 5 age)", "int"), ("(plus 1 (truth yes))", "int"), ("(count (for nil (none)))", "int"),
        ):
            with self.subTest(text=text, kind=kind):
                self.assertIs(self.fits(text, kind), False)

    def test_by_chance(self):
        chance = random.Random(71)
        for _ in range(300):
            kind, other = chance.choice(KINDS), chance.choice(KINDS)
            tables = tuple(chance.choice(TABLES) for _ in range(chance.randrange(3)))
            thing = any_thing(chance, kind, tables, 3)
            self.assertTrue(thing_fits(thing, kind, HEADS, tables))
            if thing[0] != "list":
                self.assertEqual(thing_fits(thing, other, HEADS, tables), kind == other)

    def test_deep_lists(self):
        thing = nested(900, lambda part: ("list", ("leaf", (), part)), ("number", 1))
        kind = nested(900, lambda part: ("list", part), "int")
        self.assertTrue(thing_fits(thing, kind, HEADS, ()))
        self.assertFalse(thing_fits(("list", ("leaf", (), thing)), kind, HEADS, ()))


if __name__ == "__main__":
    unittest.main()
