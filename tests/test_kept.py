"""[14.6] to [14.9]."""

import random
import unittest

from listasks.compiling import questions_of
from listasks.flatrun import rows_in_order, run_member, run_plain
from listasks.kept import Change, Kept, put_rows
from listasks.kinds import list_places
from listasks.meaning import meaning
from listasks.members import Member
from listasks.named import rows_named
from listasks.programs import Program
from listasks.stores import Store
from listasks.texts import term_of
from tests.helping import refusal
from tests.making import DEFINITIONS, HEADS, any_store
from tests.making_trees import any_rows
from tests.planref import any_member, cells_in
from tests.test_answers import ACROSS
from tests.test_compiling import ASKING, STAFF, staff
from tests.test_reading import RichKinds, chance_program

# Programs with trees under "empty", "count" and "total" in tests and in cells, at places within, too.
DEEP = (
    "(for d (table dept) (one (record a (field d name) b (for e (table emp) (where (less (field e age) (count (for f (table dept)"
    " (where (equal (field f name) (field d name)) (one f))))) (one (record n (field e who) s (total (for g (table emp)"
    " (one (field g age)))))))))))",
    "(join (for e (table emp) (where (not (empty (table dept))) (one (field e age)))) (one (total (for e (table emp)"
    " (where (field e boss) (one (count (for d (table dept) (where (equal (field d name) (field e who)) (one d))))))))))",
    "(if (less (count (table dept)) (count (table emp))) (for e (table emp) (one (one (field e who)))) (for d (table dept)"
    " (one (if (empty (for e (table emp) (where (equal (field e who) (field d name)) (one 1)))) (none) (one (field d name))))))",
)
NAMES = "(for x (table dept) (one (field x name)))"


def depts():
    store = Store([("dept", [("name", "text")])])
    store.put("dept", ("a",))
    store.put("dept", ("b",))
    return store


def any_cells(chance, table):
    if table == "dept":
        return (chance.choice("ab"),)
    return (chance.randrange(3), chance.random() < 0.5, chance.choice("ab"))


def any_deed(chance, store):
    """("put", table, cells) or ("take", table, number) of a row that is there."""
    named = [(table, number) for table, _ in HEADS for number, _ in store.rows_of(table)]
    if named and chance.random() < 0.45:
        return ("take", *chance.choice(named))
    table = chance.choice(("dept", "emp"))
    return ("put", table, any_cells(chance, table))


class PutRowsTest(unittest.TestCase):
    def test_put_rows(self):
        store = staff()
        member = questions_of(Program(STAFF, [], term_of(ASKING)))[1].members[0]
        self.assertEqual(put_rows(member, "dept", 1, store), (((1,), (1,), ("ann",)), ((1,), (3,), ("cy",))))
        self.assertEqual(put_rows(member, "emp", 2, store), (((2,), (2,), ("bob",)),))
        self.assertEqual(put_rows(Member(("emp",), (), (), (("row", 0),), ()), "dept", 1, store), ())
        self.assertEqual(put_rows(Member((), (), (), (), ()), "dept", 1, store), ())
        self.assertEqual(put_rows(Member(("emp",), (("equal", ("column", 0, "who"), ("text", "x")),), (), (("row", 0),), ()),
                                  "emp", 1, store), ())
        self.assertEqual(store, staff())

    def test_a_row_at_several_rows_of_a_member(self):
        member = Member(("emp", "dept", "emp"), (), (("row", 2),), (("row", 0), ("part", 4), ("row", 1)), ())
        rows = put_rows(member, "emp", 2, staff())
        due = [((2,), (1, 4, 1)), ((2,), (2, 4, 1)), ((2,), (3, 4, 1)), ((1,), (2, 4, 1)), ((3,), (2, 4, 1))]
        due += [(outer, (first, 4, 2)) for outer, (first, _, _) in due]
        self.assertEqual([(outer, own) for outer, own, _ in rows], sorted(due))
        three = Member(("emp",) * 3, (), (), (("row", 0), ("row", 1), ("row", 2)), ())
        self.assertEqual(len(put_rows(three, "emp", 2, staff())), 27 - 8)
        self.assertEqual([own for _, own, _ in put_rows(three, "emp", 2, staff())].count((2, 2, 2)), 1)

    def test_by_chance(self):
        chance = random.Random(280)
        several = 0
        for _ in range(250):
            made = any_member(chance)
            store = any_rows(chance)
            for table, _ in HEADS:
                for number, _ in store.rows_of(table):
                    rows = put_rows(made, table, number, store)
                    due = [row for row in run_member(made, store) if names(made, row, table, number)]
                    self.assertEqual(rows, tuple(due))
                    self.assertEqual(rows, rows_in_order(rows))
                    several += len(rows) if made.tables.count(table) > 1 else 0
        self.assertGreater(several, 100)


def names(made, row, table, number):
    """Whether a row of a member names this row of the store."""
    outer, own, _ = row
    return any(word == "row" and made.tables[at] == table and told == number
               for (word, at), told in zip(made.outer + made.own, outer + own))


class ChangeTest(unittest.TestCase):
    def test_a_result(self):
        change = Change(1, ("x",), (), (2,))
        self.assertEqual((change.place, change.gone, change.come, change.anew), (1, ("x",), (), (2,)))
        self.assertEqual(change, Change(1, ("x",), (), (2,)))
        for other in (Change(0, ("x",), (), (2,)), Change(1, (), (), (2,)), Change(1, ("x",), ("x",), (2,)), Change(1, ("x",), (), ()),
                      (1, ("x",), (), (2,)), None):
            self.assertFalse(change == other)
            self.assertNotEqual(change, other)


class KeptTest(unittest.TestCase):
    def test_the_example(self):
        store = depts()
        kept = Kept(Program(store.heads, [], term_of(NAMES)), store)
        self.assertEqual(kept.rows_at(0), (((), (1,), ("a",)), ((), (2,), ("b",))))
        self.assertEqual(kept.last, ())
        self.assertEqual(kept.take("dept", 1), ("a",))
        self.assertEqual(kept.rows_at(0), (((), (2,), ("b",)),))
        self.assertEqual(kept.last, (Change(0, (((), (1,), ("a",)),), (), ()),))
        self.assertEqual(kept.put("dept", ["c"]), 3)
        self.assertEqual(kept.last, (Change(0, (), (((), (3,), ("c",)),), ()),))
        self.assertEqual(kept.told_now(), ["b", "c"])

    def test_attributes(self):
        program = Program(STAFF, [], term_of(ASKING))
        kept = Kept(program, staff())
        self.assertEqual(kept.program, program)
        self.assertEqual(kept.questions, questions_of(program))

    def test_its_own_store(self):
        store = depts()
        kept = Kept(Program(store.heads, [], term_of(NAMES)), store)
        store.put("dept", ("x",))
        self.assertEqual(kept.told_now(), ["a", "b"])
        self.assertEqual(kept.put("dept", ("c",)), 3)
        self.assertEqual(store.rows_of("dept")[-1], (3, ("x",)))
        told = kept.store_now()
        self.assertEqual(told.rows_of("dept"), ((1, ("a",)), (2, ("b",)), (3, ("c",))))
        told.take("dept", 1)
        self.assertEqual(kept.store_now().rows_of("dept")[0], (1, ("a",)))
        self.assertEqual(kept.told_now(), ["a", "b", "c"])
        self.assertEqual(kept.store_now().following("dept"), 4)

    def test_what_was_told_may_be_spoilt(self):
        kept = Kept(Program(STAFF, [], term_of(ASKING)), staff())
        due = [(("a", "a"), ("b", ["ann", "cy"])), (("a", "b"), ("b", ["bob"]))]
        told = kept.told_now()
        self.assertEqual(told, due)
        told[0][1][1].append("x")
        told.clear()
        self.assertEqual(kept.told_now(), due)
        cells = ["b", "dan"]
        kept.put("emp", cells)
        cells[0] = "a"
        self.assertEqual(kept.told_now(), due[:1] + [(("a", "b"), ("b", ["bob", "dan"]))])

    def test_places(self):
        kept = Kept(Program(STAFF, [], term_of(ASKING)), staff())
        self.assertEqual(len(kept.rows_at(1)), 3)
        for place in (2, -1, True, False, None, "0"):
            self.assertEqual(refusal(kept.rows_at, place), ("NoSuchPlace", place))

    def test_refused_deeds(self):
        kept = Kept(Program(STAFF, [], term_of(ASKING)), staff())

        def check(last):
            for call, given, due in (
                (kept.put, ("zoo", ("a",)), ("NoTable", "zoo")),
                (kept.put, ("dept", ("a", "b")), ("BadRow", -1)),
                (kept.put, ("dept", "a"), ("BadRow", -1)),
                (kept.put, ("emp", ("a", 5)), ("BadRow", 1)),
                (kept.take, ("zoo", 1), ("NoTable", "zoo")),
                (kept.take, ("dept", 9), ("NoRow", "dept", 9)),
                (kept.take, ("dept", True), ("NoRow", "dept", True)),
            ):
                before = kept.rows_at(0), kept.rows_at(1), kept.store_now()
                self.assertEqual(refusal(call, *given), due)
                self.assertEqual((kept.rows_at(0), kept.rows_at(1), kept.store_now()), before)
                self.assertEqual(kept.last, last)
                self.assertEqual(kept.store_now().following("dept"), before[2].following("dept"))

        check(())
        kept.take("emp", 2)
        last = (Change(0, (), (), ()), Change(1, (((2,), (2,), ("bob",)),), (), ()))
        self.assertEqual(kept.last, last)
        check(last)

    def test_members_that_are_run_anew(self):
        text = ("(for e (table emp) (one (record a (count (for f (table emp) (where (equal (field f dept) (field e dept)) (one 1))))"
                " b (join (for d (table dept) (one (field d name))) (where (empty (table dept)) (one (field e who)))))))")
        kept = Kept(Program(STAFF, [], term_of(text)), staff())
        self.assertEqual(kept.rows_at(0), (((), (1,), (2,)), ((), (2,), (1,)), ((), (3,), (2,))))
        kept.put("emp", ("b", "dan"))
        self.assertEqual(kept.last[0], Change(0, (((), (2,), (1,)),), (((), (2,), (2,)), ((), (4,), (2,))), (0,)))
        self.assertEqual(kept.last[1], Change(1, (), (((4,), (0, 1), ("a",)), ((4,), (0, 2), ("b",))), ()))
        kept.take("dept", 1)
        self.assertEqual(kept.last[0], Change(0, (), (), ()))
        self.assertEqual(kept.last[1], Change(1, tuple(((e,), (0, 1), ("a",)) for e in (1, 2, 3, 4)), (), (1,)))
        kept.take("dept", 2)
        come = tuple(((e,), (1,), (who,)) for e, who in ((1, "ann"), (2, "bob"), (3, "cy"), (4, "dan")))
        self.assertEqual(kept.last[1], Change(1, tuple(((e,), (0, 2), ("b",)) for e in (1, 2, 3, 4)), come, (1,)))
        kept.take("emp", 1)
        self.assertEqual(kept.last[0], Change(0, (((), (1,), (2,)), ((), (3,), (2,))), (((), (3,), (1,)),), (0,)))
        self.assertEqual(kept.told_now(), meaning(kept.program, kept.store_now()))

    def test_equal_rows(self):
        store = depts()
        kept = Kept(Program(store.heads, [], term_of(NAMES)), store)
        self.assertEqual([kept.put("dept", ("a",)) for _ in range(3)], [3, 4, 5])
        kept.take("dept", 4)
        self.assertEqual(kept.told_now(), ["a", "b", "a", "a"])
        self.assertEqual(kept.put("dept", ("a",)), 6)
        self.assertEqual(kept.last, (Change(0, (), (((), (6,), ("a",)),), ()),))

    def check_history(self, chance, program, store, deeds):
        kept = Kept(program, store)
        before = store.copied()
        count = 0
        for _ in range(deeds):
            due = kept.store_now()
            self.assertEqual(due.heads, program.heads)
            word, table, told = any_deed(chance, due)
            rows = [run_plain(question, due) for question in kept.questions]
            self.assertEqual([kept.rows_at(place) for place in range(len(rows))], rows)
            self.assertEqual(getattr(kept, word)(table, told), getattr(due, word)(table, told))
            now = kept.store_now()
            self.assertEqual(now, due)
            self.assertEqual([now.following(other) for other, _ in HEADS], [due.following(other) for other, _ in HEADS])
            after = [run_plain(question, due) for question in kept.questions]
            self.assertEqual([kept.rows_at(place) for place in range(len(rows))], after)
            self.assertEqual(kept.told_now(), meaning(program, due))
            self.check_last(kept, table, rows, after)
            count += any(change.anew and (change.gone or change.come) for change in kept.last)
        self.assertEqual(store, before)
        return count

    def check_last(self, kept, table, before, after):
        self.assertEqual(len(kept.last), len(list_places(kept.program.kind)))
        for place, (change, rows, others) in enumerate(zip(kept.last, before, after)):
            anew = [number for number, member in enumerate(kept.questions[place])
                    if any(node[:2] == ("for", table) for node in cells_in(member.tests + member.cells))]
            gone = tuple(row for row in rows if row not in others)
            come = tuple(row for row in others if row not in rows)
            self.assertEqual(change, Change(place, gone, come, tuple(anew)))
            if not anew:
                self.assertFalse(gone and come)
                for row in gone + come:
                    self.assertIn(table, [name for name, _ in rows_named(kept.questions[place], row)])

    def test_histories_by_chance(self):
        chance = random.Random(281)
        with RichKinds():
            for _ in range(200):
                self.check_history(chance, chance_program(chance), any_store(chance), 6)

    def test_histories_of_chosen_programs(self):
        chance = random.Random(282)
        changed = 0
        for text in ACROSS + DEEP:
            for _ in range(4):
                changed += self.check_history(chance, Program(HEADS, DEFINITIONS, term_of(text)), any_store(chance), 10)
        self.assertGreater(changed, 60)

    def test_two_kept_answers_are_apart(self):
        store = depts()
        program = Program(store.heads, [], term_of(NAMES))
        one, other = Kept(program, store), Kept(program, store)
        one.put("dept", ("x",))
        self.assertEqual(other.told_now(), ["a", "b"])
        self.assertEqual(other.last, ())


if __name__ == "__main__":
    unittest.main()
