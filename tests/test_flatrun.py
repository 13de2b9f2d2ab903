"""[10.3] and [10.4]."""

import random
import unittest

from listasks.cells import FALSE
from listasks.flatrun import row_of_member, rows_in_order, run_member, run_plain, run_under, tables_named
from listasks.members import FlatQuestion, Member
from listasks.shredding import shred
from listasks.stores import Store
from listasks.trees import leaf_of
from tests.flatref import rows_of_member, rows_of_question
from tests.helping import listed, refusal
from tests.making import HEADS
from tests.making_trees import KINDS, any_canonical, any_rows

AGE, BOSS, WHO = ("column", 0, "age"), ("column", 0, "boss"), ("column", 0, "who")
ROWS = (("row", 0), ("row", 1))


def small_store():
    """Rows dept 1 (a), 3 (b); emp 1 (5, yes, a), 2 (7, no, b), 4 (5, no, a)."""
    store = Store(HEADS)
    for name in ("a", "x", "b"):
        store.put("dept", (name,))
    store.take("dept", 2)
    for cells in ((5, True, "a"), (7, False, "b"), (0, True, "x"), (5, False, "a")):
        store.put("emp", cells)
    store.take("emp", 3)
    return store


JOINED = Member(("dept", "emp"), (("equal", ("column", 0, "name"), ("column", 1, "who")),), ROWS[:1], ROWS[1:],
                (("column", 1, "age"),))


class RowsTest(unittest.TestCase):
    def setUp(self):
        self.store = small_store()

    def test_row_of_member(self):
        member = Member(("dept", "emp"), (FALSE,), (("part", 4), ("row", 1)), (("row", 0), ("part", 0), ("row", 1)),
                        (("column", 1, "age"), ("column", 0, "name"), ("count", ("none",))))
        choice = (("dept", 3), ("emp", 2))
        # whether the tests hold is not asked
        self.assertEqual(row_of_member(member, choice, self.store), ((4, 2), (3, 0, 2), (7, "b", 0)))
        self.assertEqual(row_of_member(Member((), (), (), (), ()), (), self.store), ((), (), ()))
        self.assertEqual(refusal(row_of_member, member, (("dept", 2), ("emp", 2)), self.store), ("NoRow", "dept", 2))

    def test_rows_in_order(self):
        rows = [((2,), (1,), ("a",)), ((1,), (9,), ("b",)), ((1,), (1, 0), ("c",)), ((1,), (1,), ("d",)), ((), (5,), ("e",)),
                ((1,), (1, 0), ("f",)), ((1, 0), (0,), ("g",)), ((1,), (), ("h",)), ((1,), (1, 0), ("a",)), ((10,), (), ("i",))]
        before = list(rows)
        told = rows_in_order(rows)
        self.assertEqual("".join(cells[0] for _, _, cells in told), "ehdcfabgai")
        self.assertIsInstance(told, tuple)
        self.assertEqual(rows, before)
        self.assertEqual(rows_in_order(tuple(rows)), told)
        self.assertEqual(rows_in_order([]), ())
        rows.clear()
        self.assertEqual(len(told), 10)
        passed = listed(told[::-1])
        again = rows_in_order(passed)
        self.assertEqual([row[:2] for row in again], [row[:2] for row in told])
        passed[0][2][0] = "z"
        passed[0][1].append(9)
        self.assertEqual(sorted(again), sorted(told))


class RunTest(unittest.TestCase):
    def setUp(self):
        self.store = small_store()

    def test_run_member(self):
        self.assertEqual(run_member(JOINED, self.store), (((1,), (1,), (5,)), ((1,), (4,), (5,)), ((3,), (2,), (7,))))
        alone = Member((), (), (), (("part", 2),), (("number", 8),))
        self.assertEqual(run_member(alone, self.store), (((), (2,), (8,)),))
        self.assertEqual(run_member(Member((), (("empty", ("none",)),), (), (), ()), self.store), (((), (), ()),))
        self.assertEqual(run_member(Member((), (("empty", leaf_of((), ("record", ()))),), (), (), ()), self.store), ())
        self.assertEqual(run_member(Member((), (FALSE,), (), (), ()), self.store), ())
        every = Member(("dept", "emp"), (), (), ROWS, ())
        self.assertEqual([own for _, own, _ in run_member(every, self.store)],
                         [(1, 1), (1, 2), (1, 4), (3, 1), (3, 2), (3, 4)])
        turned = Member(("dept", "emp"), (), ROWS[1:], ROWS[:1], ())
        self.assertEqual([(outer, own) for outer, own, _ in run_member(turned, self.store)],
                         [((1,), (1,)), ((1,), (3,)), ((2,), (1,)), ((2,), (3,)), ((4,), (1,)), ((4,), (3,))])

    def test_all_tests_are_asked(self):
        tests = (BOSS, ("less", ("number", 1), AGE))
        for some, numbers in (((), [1, 2, 4]), (tests[:1], [1]), (tests[1:], [1, 2, 4]), (tests, [1]),
                              ((("not", BOSS),) + tests[1:], [2, 4]), (tests[:1] + (("not", BOSS),), [])):
            member = Member(("emp",), some, (), ROWS[:1], (WHO,))
            self.assertEqual([own[0] for _, own, _ in run_member(member, self.store)], numbers)

    def test_tests_with_trees_of_their_own(self):
        counted = ("count", ("for", "emp", ("leaf", (("equal", ("column", 2, "who"), ("column", 0, "name")),), ("record", ()))))
        member = Member(("dept", "emp"), (("equal", counted, ("number", 2)),), (), ROWS, (counted,))
        self.assertEqual(run_member(member, self.store), tuple(((), (1, number), (2,)) for number in (1, 2, 4)))

    def test_rows_equal_in_both_keys(self):
        member = Member(("emp",), (), (), (), (AGE, BOSS))
        self.assertEqual(run_member(member, self.store), (((), (), (5, True)), ((), (), (7, False)), ((), (), (5, False))))
        other = Member((), (), (), (), (("number", 0), FALSE))
        question = FlatQuestion((), (other, member, other))
        self.assertEqual([cells for _, _, cells in run_plain(question, self.store)],
                         [(0, False), (5, True), (7, False), (5, False), (0, False)])

    def test_doubled_rows(self):
        self.store.put("emp", (5, True, "a"))
        member = Member(("emp",), (BOSS,), (), ROWS[:1], (WHO,))
        self.assertEqual(run_member(member, self.store), (((), (1,), ("a",)), ((), (5,), ("a",))))

    def test_tables_without_rows(self):
        store = Store(HEADS)
        self.assertEqual(run_member(JOINED, store), ())
        store.put("dept", ("a",))
        self.assertEqual(run_member(JOINED, store), ())
        self.assertEqual(run_plain(FlatQuestion((), ()), self.store), ())

    def test_run_plain(self):
        members = (Member(("emp",), (), (), (("part", 1), ("row", 0)), (AGE,)), Member((), (), (), (("part", 0),), (("number", 3),)),
                   Member(("emp",), (BOSS,), (), (("part", 2), ("row", 0)), (AGE,)))
        self.assertEqual(run_plain(FlatQuestion((), members), self.store), (
            ((), (0,), (3,)), ((), (1, 1), (5,)), ((), (1, 2), (7,)), ((), (1, 4), (5,)), ((), (2, 1), (5,))))

    def test_run_under(self):
        question = FlatQuestion(("*",), (JOINED,))
        self.assertEqual(run_under(question, (1,), self.store), (((1,), (1,), (5,)), ((1,), (4,), (5,))))
        self.assertEqual(run_under(question, (3,), self.store), (((3,), (2,), (7,)),))
        for outer in ((), (2,), (0,), (4,), (-1,), (1, 1), (1, 0)):
            self.assertEqual(run_under(question, outer, self.store), ())
        parts = FlatQuestion(("*",), (
            Member(("emp",), (), (("part", 0), ("row", 0)), (("part", 1),), (AGE,)),
            Member(("emp",), (), (("part", 1), ("row", 0)), (), (AGE,)),
            Member(("emp",), (), (("part", 0), ("row", 0)), (("part", 0),), (WHO,)),
            Member((), (), (("part", 0),), (), (("number", 1),)),
        ))
        self.assertEqual(run_under(parts, (0, 2), self.store), (((0, 2), (0,), ("b",)), ((0, 2), (1,), (7,))))
        self.assertEqual(run_under(parts, (1, 2), self.store), (((1, 2), (), (7,)),))
        self.assertEqual(run_under(parts, (0,), self.store), (((0,), (), (1,)),))
        for outer in ((2, 2), (0, 3), (1,), (0, 2, 0)):
            self.assertEqual(run_under(parts, outer, self.store), ())

    def test_a_row_twice_in_the_outer_key(self):
        member = Member(("emp",), (), (("row", 0), ("row", 0)), (), (AGE,))
        question = FlatQuestion(("*",), (member,))
        self.assertEqual(run_under(question, (2, 2), self.store), (((2, 2), (), (7,)),))
        self.assertEqual(run_under(question, (2, 1), self.store), ())

    def test_by_chance(self):
        chance = random.Random(104)
        for _ in range(150):
            kind = ("list", chance.choice(KINDS))
            store = any_rows(chance)
            before = store.copied()
            for question in shred(any_canonical(chance, kind[1], deep=5), kind):
                rows = run_plain(question, store)
                self.assertEqual(rows, rows_of_question(question, store))
                for member in question:
                    self.assertEqual(run_member(member, store), rows_in_order(rows_of_member(member, store)))
                for outer in {row[0] for row in rows} | {(), (1,), (0, 1)}:
                    self.assertEqual(run_under(question, outer, store), tuple(row for row in rows if row[0] == outer))
            self.assertEqual(store, before)

    def test_long_members(self):
        self.store.take("dept", 3)
        tests = tuple(sorted((("equal", ("column", at, "name"), ("text", "a")) for at in (0, 700, 1499)), key=str))
        member = Member(("dept",) * 1500, tests, (), tuple(("row", at) for at in range(1500)), (("column", 1499, "name"),))
        self.assertEqual(run_member(member, self.store), (((), (1,) * 1500, ("a",)),))

    def test_many_choices(self):
        store = Store(HEADS)
        for number in range(60):
            store.put("emp", (number, True, "a"))
        member = Member(("emp", "emp", "emp"), (("equal", ("column", 0, "age"), ("column", 1, "age")),
                                                ("less", ("column", 1, "age"), ("number", 3))), (), ROWS + (("row", 2),), ())
        self.assertEqual(len(run_member(member, store)), 180)


class TablesNamedTest(unittest.TestCase):
    def test_tables_named(self):
        def counting(*tables):
            tree = leaf_of((), ("record", ()))
            for table in tables:
                tree = ("for", table, tree)
            return ("count", tree)

        deep = ("total", ("leaf", (("empty", ("for", "d", leaf_of((), ("record", ())))),), counting("b")))
        cases = (
            ((), ()),
            ((Member((), (), (), (), ()),), ()),
            ((Member(("t", "s", "t"), (), (), (), ()),), ("s", "t")),
            ((Member(("t",), (("equal", counting("u", "a"), ("number", 1)),), (), (), ()),), ("a", "t", "u")),
            ((Member(("t",), (), (), (), (("number", 1), counting("c"))), Member(("a",), (), (), (), ())), ("a", "c", "t")),
            ((Member((), (), (), (), (deep,)),), ("b", "d")),
        )
        for members, tables in cases:
            self.assertEqual(tables_named(FlatQuestion((), members)), tables)

    def test_other_tables_do_not_matter(self):
        chance = random.Random(105)
        for _ in range(100):
            kind = ("list", chance.choice(KINDS))
            store, other = any_rows(chance), any_rows(chance)
            for question in shred(any_canonical(chance, kind[1], deep=4), kind):
                named = tables_named(question)
                lots = [((store if table in named else other).following(table),
                         (store if table in named else other).rows_of(table)) for table, _ in HEADS]
                self.assertEqual(run_plain(question, Store.from_rows(HEADS, lots)), run_plain(question, store))


if __name__ == "__main__":
    unittest.main()
