"""[6.8] to [6.11]."""

import itertools
import random
import unittest

from listasks.keys import goes_before, key_begins, key_from, told_rows, told_values, value_for_key, value_of
from listasks.stores import Store
from listasks.trees import NONE, for_of, leaf_of, leaves_of, parts_of
from listasks.worths import held
from tests.helping import listed, nested
from tests.making import HEADS
from tests.making_trees import KINDS, any_canonical, any_choice, any_rows, any_thing
from tests.treesref import canonical, leaves_held, told

PAIR = parts_of([leaf_of([], ("number", 1)), leaf_of([], ("number", 2))])


def small_store():
    """Rows dept 1 (a), 2 (b); emp 1 (5, yes, ann), 3 (7, no, cy)."""
    store = Store(HEADS)
    for name in ("a", "b"):
        store.put("dept", (name,))
    for cells in ((5, True, "ann"), (6, True, "bob"), (7, False, "cy")):
        store.put("emp", cells)
    store.take("emp", 2)
    return store


class OrderTest(unittest.TestCase):
    def test_goes_before(self):
        for one, other, before in (
            ((), (), False), ((), (0,), True), ((0,), (), False), ((1,), (1,), False), ((1,), (2,), True), ((2,), (1,), False),
            ((1,), (1, 0), True), ((1, 0), (1,), False), ((1, 9), (2, 0), True), ((2,), (1, 9), False), ((9,), (10,), True),
            ((1, 2, 3), (1, 2, 4), True), ((1, 3), (1, 2, 4), False), ((1, 2), (1, 2, 0, 0), True),
        ):
            self.assertIs(goes_before(one, other), before)

    def test_key_begins(self):
        for one, other, begins in (
            ((), (), True), ((), (1, 2), True), ((1,), (1, 2), True), ((1, 2), (1, 2), True), ((1, 2), (1,), False),
            ((2,), (1, 2), False), ((1, 3), (1, 2, 3), False), ((0,), (), False),
        ):
            self.assertIs(key_begins(one, other), begins)

    def test_key_from(self):
        choice = (("dept", 7), ("emp", 4), ("emp", 9))
        self.assertEqual(key_from((), choice), ())
        self.assertEqual(key_from((("part", 3), ("row", 0), ("row", 1), ("part", 0)), choice), (3, 7, 4, 0))
        self.assertEqual(key_from((("row", 2), ("part", 2)), choice), (9, 2))


class ToldTest(unittest.TestCase):
    def setUp(self):
        self.store = small_store()

    def test_the_example(self):
        tree = for_of("dept", PAIR)
        self.assertEqual(told_rows(tree, (), self.store), (((1, 0), 1), ((1, 1), 2), ((2, 0), 1), ((2, 1), 2)))
        self.assertEqual(value_for_key(tree, (2, 1), (), self.store), ((("dept", 2),), 2))
        self.assertIsNone(value_for_key(tree, (2,), (), self.store))

    def test_none_and_a_lone_leaf(self):
        self.assertEqual(told_rows(NONE, (), self.store), ())
        self.assertEqual(told_values(NONE, (), self.store), [])
        leaf = leaf_of([], ("column", 0, "name"))
        choice = (("dept", 2),)
        self.assertEqual(told_rows(leaf, choice, self.store), (((), "b"),))
        self.assertEqual(told_values(leaf, choice, self.store), ["b"])
        self.assertEqual(value_for_key(leaf, (), choice, self.store), (choice, "b"))
        self.assertIsNone(value_for_key(NONE, (), (), self.store))

    def test_value_of(self):
        choice = (("emp", 3),)
        inner = for_of("dept", leaf_of([("equal", ("column", 1, "name"), ("text", "b"))], ("column", 0, "who")))
        record = ("record", (("a", ("column", 0, "age")), ("b", ("record", ())), ("c", ("list", inner)), ("d", ("list", NONE))))
        cases = (
            (("number", 3), 3), (("column", 0, "boss"), False), (("record", ()), ()), (("list", NONE), []),
            (record, (("a", 7), ("b", ()), ("c", ["cy"]), ("d", []))),
            (("list", leaf_of([], ("list", inner))), [["cy"]]),
            (("list", PAIR), [1, 2]),
        )
        for thing, value in cases:
            self.assertEqual(value_of(thing, choice, self.store), value)

    def test_lists_are_new(self):
        inner = ("list", leaf_of([], ("number", 1)))
        tree = for_of("dept", leaf_of([], ("record", (("a", inner), ("b", inner), ("c", ("list", NONE))))))
        first, second = told_values(tree, (), self.store), told_values(tree, (), self.store)
        lists = [item for whole in (first, second) for item in [whole] + [part for row in whole for _, part in row]]
        lists += [part for _, row in told_rows(tree, (), self.store) for _, part in row]
        self.assertEqual(len(lists), len({id(item) for item in lists}))
        first[0][0][1].append(9)
        self.assertEqual(told_values(tree, (), self.store), second)

    def test_keys_that_tell_nothing(self):
        tree = parts_of([for_of("emp", PAIR), leaf_of([("column", 0, "boss")], ("number", 3))])
        choice = (("emp", 1),)
        good = ((0, 1, 0), (0, 1, 1), (0, 3, 0), (0, 3, 1), (1,))
        self.assertEqual(tuple(key for key, _ in told_rows(tree, choice, self.store)), good)
        bad = ((), (0,), (0, 1), (1, 0), (0, 1, 0, 0), (0, 2, 0), (0, 4, 0), (0, 0, 0), (0, -1, 0), (-1,), (2,), (0, 1, 2),
               (0, 1, -1), (3,), (0, 1, 0, -1), (-2, 1, 0))
        # True is no number
        bad += ((0, True, 0), (True,), (0, 1, False))
        for key in bad:
            self.assertIsNone(value_for_key(tree, key, choice, self.store))
        self.assertEqual(value_for_key(tree, (0, 3, 1), choice, self.store), ((("emp", 1), ("emp", 3)), 2))
        self.assertEqual(value_for_key(tree, (1,), choice, self.store), (choice, 3))
        # the test of the leaf is false there
        self.assertIsNone(value_for_key(tree, (1,), (("emp", 3),), self.store))

    def test_by_chance(self):
        chance = random.Random(611)
        for _ in range(200):
            kind = chance.choice(KINDS)
            store = any_rows(chance)
            tables = tuple(chance.choice(("dept", "emp")) for _ in range(chance.randrange(3)))
            choice = any_choice(chance, tables, store)
            if choice is None:
                continue
            before = store.copied()
            tree = any_canonical(chance, kind, tables)
            rows = told_rows(tree, choice, store)
            self.assertEqual(rows, tuple((key, told(thing, more, store)) for key, more, thing in leaves_held(tree, choice, store)))
            self.assertEqual(told_values(tree, choice, store), [value for _, value in rows])
            thing = canonical(any_thing(chance, kind, tables, 3))
            self.assertEqual(value_of(thing, choice, store), told(thing, choice, store))
            passed = listed(choice)
            self.assertEqual((told_rows(tree, passed, store), told_values(tree, passed, store), value_of(thing, passed, store)),
                             (rows, [value for _, value in rows], told(thing, choice, store)))
            self.assertEqual(passed, listed(choice))
            self.assertEqual(store, before)
            self.check_keys(tree, choice, store, dict(rows))

    def check_keys(self, tree, choice, store, rows):
        keys = list(rows)
        for one, other in itertools.combinations(keys, 2):
            self.assertTrue(goes_before(one, other))
            self.assertFalse(goes_before(other, one) or key_begins(one, other) or key_begins(other, one))
        choices = {key: more for key, more, _ in held(tree, choice, store)}
        longest = max((len(items) for items, *_ in leaves_of(tree)), default=0)
        some = itertools.product(range(-1, 4), repeat=min(longest, 3))
        more = [key + (0,) for key in keys] + [key[:-1] for key in keys]
        for key in itertools.chain(keys, some, more):
            due = (choices[key], rows[key]) if key in rows else None
            self.assertEqual(value_for_key(tree, key, choice, store), due)
            self.assertEqual(value_for_key(tree, key, listed(choice), store), due)

    def test_deep_things(self):
        thing = nested(900, lambda part: ("list", leaf_of((), part)), ("number", 1))
        value = value_of(thing, (), self.store)
        for _ in range(900):
            value, = value
        self.assertEqual(value, 1)
        tree = nested(2000, lambda part: for_of("dept", part), leaf_of((), ("number", 1)))
        self.store.take("dept", 1)
        self.assertEqual(told_rows(tree, (), self.store), (((2,) * 2000, 1),))
        self.assertEqual(value_for_key(tree, (2,) * 2000, (), self.store), ((("dept", 2),) * 2000, 1))


if __name__ == "__main__":
    unittest.main()
