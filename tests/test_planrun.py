"""[12.1] to [12.9]."""

import inspect
import random
import unittest

from listasks.cells import FALSE, TRUE
from listasks.flatrun import run_member, run_plain
from listasks.members import FlatQuestion, Member
from listasks.planrun import PlanRun, most_touched, plans_for, run_plan, run_question, sizes_of, states_of
from listasks.plans import all_plans, plain_plan, plan_for
from listasks.shredding import shred
from listasks.stores import Store
from listasks.trees import leaf_of
from tests.flatref import rows_of_question
from tests.helping import listed, refusal
from tests.making import HEADS
from tests.making_trees import KINDS, any_canonical, any_rows
from tests.planref import any_member, bindings, drawn_plan
from tests.test_compiling import STAFF, staff
from tests.test_judge import NAME, SAME

ROWS = (("row", 0), ("row", 1))
JOINED = Member(("dept", "emp"), (SAME,), ROWS[:1], ROWS[1:], (("column", 1, "who"),))
ENDS = ((1, 1), (1, 3), (2, 2))
EMPTY = Member((), (), (), (("part", 3),), (("number", 4),))


def looked_at(member, plan, counts, store):
    """The rows looked at, as [12.5] counts them."""
    touched = 0
    for at, step in enumerate(plan):
        if step[0] != "keep":
            size = len(store.rows_of(member.tables[step[1]]))
            touched += counts[at] * size if step[0] == "take" else min(counts[at], 1) * size
    return touched


class ExampleTest(unittest.TestCase):
    def test_the_example(self):
        for plan, counts, touched in (
            ((("take", 0), ("match", 1, 0)), (1, 2, 3), 5),
            ((("take", 0), ("take", 1), ("keep", 0)), (1, 2, 6, 3), 8),
            ((("take", 1), ("match", 0, 0)), (1, 3, 3), 5),
            ((("take", 1), ("take", 0), ("keep", 0)), (1, 3, 6, 3), 9),
        ):
            store = staff()
            run = run_plan(JOINED, plan, store)
            self.assertEqual(run.rows, (((1,), (1,), ("ann",)), ((1,), (3,), ("cy",)), ((2,), (2,), ("bob",))))
            self.assertEqual((run.counts, run.touched), (counts, touched))
            self.assertIsInstance(run, PlanRun)
            self.assertEqual(run, PlanRun(run.rows, counts, touched))
            self.assertEqual(run_plan(JOINED, listed(plan), store), run)
            self.assertEqual(list(states_of(JOINED, plan, store))[-1], ENDS)
            self.assertEqual(store, staff())
            self.assertEqual([store.following(table) for table, _ in STAFF], [3, 4])

    def test_states(self):
        self.assertEqual(list(states_of(JOINED, (("take", 1), ("take", 0), ("keep", 0)), staff())), [
            ((None, None),),
            ((None, 1), (None, 2), (None, 3)),
            ((1, 1), (1, 2), (1, 3), (2, 1), (2, 2), (2, 3)),
            ENDS,
        ])
        self.assertEqual(list(states_of(JOINED, [["take", 1], ["match", 0, 0]], staff()))[1:],
                         [((None, 1), (None, 2), (None, 3)), ENDS])
        self.assertTrue(inspect.isgeneratorfunction(states_of))


class PlanRunTest(unittest.TestCase):
    def test_a_result(self):
        run = PlanRun((1, "x"), None, -3)
        self.assertEqual((run.rows, run.counts, run.touched), ((1, "x"), None, -3))
        self.assertEqual(run, PlanRun((1, "x"), None, -3))
        for other in (PlanRun((1,), None, -3), PlanRun((1, "x"), (), -3), PlanRun((1, "x"), None, 3), ((1, "x"), None, -3), None, 3):
            self.assertNotEqual(run, other)
            self.assertFalse(run == other)


class StatesTest(unittest.TestCase):
    def test_bad_plans(self):
        for plan, due in (
            ((), (0, "row")),
            ((("take", 0), ("take", 0)), (1, "taken")),
            ((("take", 0), ("keep", 0)), (1, "early")),
            ((("take", 0), ("take", 1)), (2, "test")),
            ((("match", 0, 0),), (0, "early")),
            ((("take", 0), ("match", 1, 1)), (1, "test")),
            ((("go", 0),), (0, "step")),
        ):
            self.assertEqual(refusal(lambda steps: list(states_of(JOINED, steps, staff())), plan), ("BadPlan", *due))
            self.assertEqual(refusal(run_plan, JOINED, plan, staff()), ("BadPlan", *due))

    def test_the_empty_plan(self):
        self.assertEqual(list(states_of(EMPTY, (), staff())), [((),)])
        self.assertEqual(run_plan(EMPTY, (), staff()), PlanRun((((), (3,), (4,)),), (1,), 0))

    def test_tests_that_speak_of_no_row(self):
        for test, last in ((TRUE, 1), (FALSE, 0), (("empty", ("none",)), 1), (("empty", ("for", "emp", leaf_of((), ("record", ())))), 0)):
            member = Member((), (test,), (), (), ())
            self.assertEqual(run_plan(member, (("keep", 0),), staff()).counts, (1, last))
            self.assertEqual(run_plan(member, (("keep", 0),), staff()).rows, (((), (), ()),) * last)

    def test_no_rows_are_looked_at_where_no_binding_stands(self):
        store = staff()
        for number in (1, 2):
            store.take("dept", number)
        self.assertEqual(run_plan(JOINED, (("take", 0), ("match", 1, 0)), store), PlanRun((), (1, 0, 0), 0))
        self.assertEqual(run_plan(JOINED, (("take", 0), ("take", 1), ("keep", 0)), store), PlanRun((), (1, 0, 0, 0), 0))
        self.assertEqual(run_plan(JOINED, (("take", 1), ("match", 0, 0)), store), PlanRun((), (1, 3, 0), 3))
        self.assertEqual(run_plan(JOINED, (("take", 1), ("match", 0, 0)), Store(STAFF)), PlanRun((), (1, 0, 0), 0))

    def test_a_match_looks_once_at_each_row(self):
        store = Store(STAFF)
        for _ in range(7):
            store.put("dept", ("a",))
        for _ in range(5):
            store.put("emp", ("a", "x"))
        self.assertEqual(run_plan(JOINED, (("take", 0), ("match", 1, 0)), store).counts, (1, 7, 35))
        self.assertEqual(run_plan(JOINED, (("take", 0), ("match", 1, 0)), store).touched, 12)
        self.assertEqual(run_plan(JOINED, plain_plan(JOINED), store).touched, 42)
        # the first step may be a match, of a fellow that speaks of no row
        single = Member(("dept",), (("equal", NAME, ("text", "a")),), (), ROWS[:1], ())
        self.assertEqual(run_plan(single, (("match", 0, 0),), store).touched, 7)

    def test_rows_of_sub_questions_are_not_counted(self):
        counted = ("count", ("for", "emp", leaf_of([("equal", ("column", 1, "dept"), NAME)], ("record", ()))))
        member = Member(("dept",), (("less", ("number", 1), counted),), (), ROWS[:1], (counted,))
        self.assertEqual(run_plan(member, plain_plan(member), staff()), PlanRun((((), (1,), (2,)),), (1, 2, 1), 2))

    def test_the_fellow_that_is_ready_is_taken(self):
        # row 1 is matched by the side whose fellow speaks of row 0; the other side is one for row 0
        tests = (("equal", ("column", 1, "who"), ("column", 0, "name")), ("equal", ("column", 0, "name"), ("column", 0, "name")))
        store = staff()
        store.put("emp", ("c", "a"))
        member = Member(("dept", "emp"), tests, (), ROWS, ())
        run = run_plan(member, (("take", 0), ("match", 1, 0), ("keep", 1)), store)
        self.assertEqual([own for _, own, _ in run.rows], [(1, 4)])
        run = run_plan(member, (("take", 1), ("match", 0, 0), ("keep", 1)), store)
        self.assertEqual([own for _, own, _ in run.rows], [(1, 4)])

    def test_worths_of_each_base_kind(self):
        store = Store(HEADS)
        for cells in ((1, True, "a"), (0, False, "b"), (2, True, ""), (1, False, "a")):
            store.put("emp", cells)
        for column, fellow, numbers in (
            ("age", ("plus", ("number", 3), ("number", -2)), (1, 4)),
            ("age", ("number", 0), (2,)),
            ("age", ("number", 9), ()),
            ("boss", TRUE, (1, 3)),
            ("boss", FALSE, (2, 4)),
            ("who", ("text", "a"), (1, 4)),
            ("who", ("text", ""), (3,)),
        ):
            for test in (("equal", ("column", 0, column), fellow), ("equal", fellow, ("column", 0, column))):
                member = Member(("emp",), (test,), (), ROWS[:1], ())
                for plan in all_plans(member):
                    run = run_plan(member, plan, store)
                    self.assertEqual(tuple(own[0] for _, own, _ in run.rows), numbers)

    def test_by_chance(self):
        chance = random.Random(220)
        matches = 0
        for _ in range(600):
            member = any_member(chance)
            store = any_rows(chance)
            before = store.copied()
            plan = drawn_plan(chance, member)
            states = list(states_of(member, plan, store))
            self.assertEqual(len(states), len(plan) + 1)
            rows, tests = [], []
            for step, state in zip([None, *plan], states):
                if step is not None:
                    rows += step[1:2] if step[0] != "keep" else []
                    tests += step[-1:] if step[0] != "take" else []
                    matches += step[0] == "match"
                self.assertEqual(state, bindings(member, rows, tests, store))
            run = run_plan(member, plan, store)
            self.assertEqual(run.counts, tuple(len(state) for state in states))
            self.assertEqual(run.touched, looked_at(member, plan, run.counts, store))
            self.assertEqual(run.rows, run_member(member, store))
            self.assertEqual(run.rows, run_plain(FlatQuestion((), (member,)), store))
            self.assertEqual(store, before)
            self.assertEqual([store.following(table) for table, _ in HEADS], [before.following(table) for table, _ in HEADS])
        self.assertGreater(matches, 100)

    def test_every_good_plan(self):
        chance = random.Random(221)
        for _ in range(60):
            member = any_member(chance, tables=3, tests=2)
            store = any_rows(chance)
            due = run_member(member, store)
            behind = {}
            for plan in all_plans(member):
                self.assertEqual(run_plan(member, plan, store).rows, due)
                for at, state in enumerate(states_of(member, plan, store)):
                    taken = frozenset(step[1] for step in plan[:at] if step[0] != "keep")
                    used = frozenset(step[-1] for step in plan[:at] if step[0] != "take")
                    self.assertEqual(behind.setdefault((taken, used), state), state)


class TouchedTest(unittest.TestCase):
    def test_sizes_of(self):
        store = staff()
        self.assertEqual(sizes_of(store), {"dept": 2, "emp": 3})
        store.take("dept", 1)
        sizes = sizes_of(store)
        self.assertEqual(sizes, {"dept": 1, "emp": 3})
        sizes["dept"] = 7
        self.assertEqual(sizes_of(store), {"dept": 1, "emp": 3})
        self.assertEqual(sizes_of(Store(STAFF)), {"dept": 0, "emp": 0})

    def test_most_touched(self):
        sizes = {"dept": 2, "emp": 3}
        for plan, due in (
            ((("take", 0), ("take", 1), ("keep", 0)), 8),
            ((("take", 1), ("take", 0), ("keep", 0)), 9),
            ((("take", 0), ("match", 1, 0)), 5),
            ((("take", 1), ("match", 0, 0)), 5),
            ([["take", 1], ["match", 0, 0]], 5),
        ):
            self.assertEqual(most_touched(JOINED, plan, sizes), due)
        self.assertEqual(sizes, {"dept": 2, "emp": 3})
        self.assertEqual(most_touched(EMPTY, (), {}), 0)
        self.assertEqual(most_touched(JOINED, (("take", 0), ("match", 1, 0)), {"dept": 0, "emp": 3}), 0)
        self.assertEqual(most_touched(JOINED, (("take", 1), ("match", 0, 0)), {"dept": 0, "emp": 3}), 3)
        self.assertEqual(most_touched(JOINED, plain_plan(JOINED), {"dept": 10 ** 20, "emp": 10 ** 20}), 10 ** 20 + 10 ** 40)
        three = Member(("dept", "emp", "dept"), (SAME, ("equal", NAME, ("column", 2, "name"))), (), (), ())
        self.assertEqual(most_touched(three, (("take", 0), ("match", 1, 0), ("match", 2, 1)), sizes), 2 + 3 + 2)
        self.assertEqual(most_touched(three, (("take", 1), ("match", 0, 0), ("take", 2), ("keep", 1)), sizes), 3 + 2 + 12)
        self.assertEqual(most_touched(three, (("take", 0), ("take", 1), ("keep", 0), ("take", 2), ("keep", 1)), sizes), 2 + 6 + 12)

    def test_never_more(self):
        chance = random.Random(222)
        for _ in range(300):
            member = any_member(chance)
            store = any_rows(chance)
            plan = drawn_plan(chance, member)
            most = most_touched(member, plan, sizes_of(store))
            self.assertLessEqual(run_plan(member, plan, store).touched, most)
            bare = Member(member.tables, (), member.outer, member.own, ())
            takes = tuple(step for step in plan if step[0] == "take")
            takes += tuple(("take", step[1]) for step in plan if step[0] == "match")
            self.assertEqual(run_plan(bare, takes, store).touched, most_touched(bare, takes, sizes_of(store)))

    def test_the_planners_plan_looks_at_no_more_than_the_plain_one(self):
        chance = random.Random(223)
        less = 0
        for _ in range(400):
            member = any_member(chance)
            store = any_rows(chance)
            planned = run_plan(member, plan_for(member, sizes_of(store)), store).touched
            plain = run_plan(member, plain_plan(member), store).touched
            self.assertLessEqual(planned, plain)
            less += planned < plain
        self.assertGreater(less, 50)


class QuestionTest(unittest.TestCase):
    def test_plans_for(self):
        question = FlatQuestion((), (JOINED, EMPTY, JOINED))
        self.assertEqual(plans_for(question, {"dept": 5, "emp": 2}),
                         ((("take", 1), ("match", 0, 0)), (), (("take", 1), ("match", 0, 0))))
        self.assertEqual(plans_for(FlatQuestion((), ()), {}), ())

    def test_rows_of_all_members_in_order(self):
        first = Member(("emp",), (), (), (("part", 1), ("row", 0)), (("column", 0, "who"),))
        other = Member((), (), (), (("part", 0),), (("text", "x"),))
        question = FlatQuestion((), (first, other))
        due = (((), (0,), ("x",)), ((), (1, 1), ("ann",)), ((), (1, 2), ("bob",)), ((), (1, 3), ("cy",)))
        self.assertEqual(run_question(question, ((("take", 0),), ()), staff()), due)
        self.assertEqual(run_question(question, [[["take", 0]], []], staff()), due)

    def test_no_members(self):
        none = FlatQuestion((), ())
        self.assertEqual(run_question(none, (), staff()), ())
        self.assertEqual(refusal(run_question, none, ((),), staff()), ("BadPlans", 0, 0, "many"))

    def test_bad_plans(self):
        question = FlatQuestion((), (EMPTY, JOINED, JOINED))
        good = plain_plan(JOINED)
        for plans, due in (
            ((), (0, 0, "many")),
            (((), good), (0, 0, "many")),
            (((), good, good, good), (0, 0, "many")),
            (((("go",),), (), ()), (0, 0, "step")),
            (((), good[:1], good[:2]), (1, 1, "row")),
            (((), good, good[:2]), (2, 2, "test")),
            (((), (("take", 0), ("keep", 0)), good), (1, 1, "early")),
        ):
            self.assertEqual(refusal(run_question, question, plans, staff()), ("BadPlans", *due))

    def test_no_row_is_read_before_all_plans_are_judged(self):
        class Unread(Store):
            def rows_of(self, table):
                raise AssertionError("a row was read")

        question = FlatQuestion((), (JOINED, JOINED))
        store = Unread(STAFF)
        self.assertEqual(refusal(run_question, question, (plain_plan(JOINED), ()), store), ("BadPlans", 1, 0, "row"))
        self.assertEqual(refusal(run_plan, JOINED, (), store), ("BadPlan", 0, "row"))
        self.assertRaises(AssertionError, run_question, question, (plain_plan(JOINED),) * 2, store)

    def test_by_chance(self):
        chance = random.Random(224)
        for _ in range(120):
            kind = ("list", chance.choice(KINDS))
            store = any_rows(chance)
            before = store.copied()
            for question in shred(any_canonical(chance, kind[1], deep=5), kind):
                due = rows_of_question(question, store)
                self.assertEqual(run_plain(question, store), due)
                plans = plans_for(question, sizes_of(store))
                self.assertEqual(plans, tuple(plan_for(member, sizes_of(store)) for member in question))
                self.assertEqual(run_question(question, plans, store), due)
                drawn = [listed(drawn_plan(chance, member)) for member in question]
                kept = listed(drawn)
                self.assertEqual(run_question(question, drawn, store), due)
                self.assertEqual(drawn, kept)
            self.assertEqual(store, before)

    def test_long_members(self):
        store = Store(HEADS)
        store.put("dept", ("a",))
        tests = tuple(("equal", ("column", row, "name"), ("column", row + 1, "name")) for row in range(399))
        member = Member(("dept",) * 400, tests, (), tuple(("row", row) for row in range(400)), ())
        run = run_plan(member, plan_for(member, sizes_of(store)), store)
        self.assertEqual((run.rows, run.counts, run.touched), ((((), (1,) * 400, ()),), (1,) * 401, 400))


if __name__ == "__main__":
    unittest.main()
