"""[11.1] to [11.3] and [11.5]."""

import random
import unittest

from listasks.judge import judge_plan, matches_of
from listasks.members import Member
from listasks.trees import leaf_of
from tests.helping import listed
from tests.planref import any_member, drawn_plan, fellows, is_good, rows_in

NAME, DEPT, WHO = ("column", 0, "name"), ("column", 1, "dept"), ("column", 1, "who")
SAME = ("equal", NAME, DEPT)
COUNT = ("count", ("for", "emp", leaf_of([("equal", ("column", 2, "dept"), NAME)], ("record", ()))))
TEXT = ("text", "a")


def member(*tests, tables=("dept", "emp")):
    return Member(tables, tests, (), tuple(("row", row) for row in range(len(tables))), ())


class MatchesTest(unittest.TestCase):
    def test_sides_and_their_fellows(self):
        for test, row, taken, due in (
            (SAME, 0, (), False),
            (SAME, 0, (1,), True),
            (SAME, 1, (0,), True),
            (SAME, 1, (), False),
            (("equal", DEPT, NAME), 1, [0], True),
            (("equal", NAME, TEXT), 0, (), True),                       # a fellow that speaks of no row
            (("equal", TEXT, NAME), 0, (), True),
            (("equal", TEXT, NAME), 1, (0,), False),
            (("equal", TEXT, TEXT), 0, (1,), False),
            (("equal", DEPT, WHO), 1, (0,), False),                     # two sides for row 1, each speaks of it
            (("equal", DEPT, DEPT), 1, (0,), False),
            (("less", NAME, DEPT), 0, (1,), False),
            (("not", SAME), 0, (1,), False),
            (("and", SAME, SAME), 0, (1,), False),
            (("column", 0, "boss"), 0, (), False),
            (("equal", ("column", 0, "n"), ("plus", ("column", 1, "m"), ("number", 1))), 0, (1,), True),
            (("equal", ("plus", ("column", 0, "n"), ("number", 1)), ("column", 1, "m")), 0, (1,), False),
            (("equal", ("plus", ("column", 0, "n"), ("column", 1, "n")), ("column", 1, "m")), 1, (0,), False),
            (("equal", ("column", 0, "n"), ("if", ("less", ("column", 1, "m"), ("column", 2, "m")), ("number", 1), ("number", 2))),
             0, (1,), False),
            (("equal", ("column", 0, "n"), ("if", ("less", ("column", 1, "m"), ("column", 2, "m")), ("number", 1), ("number", 2))),
             0, (2, 1), True),
            # a fellow with a sub-question is none, also if it speaks of no row, and however deep it stands
            (("equal", ("column", 1, "n"), COUNT), 1, (0,), False),
            (("equal", ("column", 1, "n"), ("plus", ("number", 1), ("total", ("none",)))), 1, (0,), False),
            (("equal", ("column", 1, "boss"), ("not", ("empty", ("none",)))), 1, (0,), False),
            # the other side of such a test is no column
            (("equal", COUNT, ("column", 1, "n")), 0, (1,), False),
            # texts and columns that are called so are none
            (("equal", ("column", 1, "n"), ("column", 0, "count")), 1, (0,), True),
            (("equal", DEPT, ("text", "count")), 1, (), True),
            (("equal", ("column", 1, "empty"), ("column", 0, "total")), 0, (1,), True),
        ):
            with self.subTest(test=test, row=row, taken=taken):
                self.assertEqual(matches_of(member(test, tables=("t",) * 3), row, taken), (0,) if due else ())

    def test_numbers_ascend(self):
        tests = (("equal", TEXT, NAME), SAME, ("less", NAME, DEPT), SAME, ("equal", NAME, ("text", "b")))
        self.assertEqual(matches_of(member(*tests), 0, ()), (0, 4))
        self.assertEqual(matches_of(member(*tests), 0, (1,)), (0, 1, 3, 4))
        self.assertEqual(matches_of(member(*tests), 1, (0,)), (1, 3))
        self.assertEqual(matches_of(member(), 1, (0,)), ())

    def test_by_chance(self):
        chance = random.Random(201)
        found = 0
        for _ in range(300):
            made = any_member(chance)
            depth = len(made.tables)
            for row in range(depth):
                taken = chance.sample([other for other in range(depth) if other != row], chance.randrange(depth))
                before = list(taken)
                due = tuple(number for number, test in enumerate(made.tests)
                            if any(rows_in(fellow, depth) <= set(taken) for _, fellow in fellows(test, row)))
                self.assertEqual(matches_of(made, row, taken), due)
                self.assertEqual(matches_of(made, row, tuple(taken)), due)
                self.assertEqual(taken, before)
                found += len(due)
        self.assertGreater(found, 100)


class JudgeTest(unittest.TestCase):
    def judged(self, *steps, tests=(SAME, ("equal", NAME, TEXT))):
        made = member(*tests)
        told = judge_plan(made, steps)
        self.assertEqual(judge_plan(made, listed(steps)), told)
        return told

    def test_good_plans(self):
        takes = ("take", 0), ("take", 1)
        for steps in (
            (*takes, ("keep", 0), ("keep", 1)),
            (*takes, ("keep", 1), ("keep", 0)),
            (*takes[::-1], ("keep", 1), ("keep", 0)),
            (takes[0], ("keep", 1), takes[1], ("keep", 0)),
            (("match", 0, 1), ("match", 1, 0)),
            (takes[1], ("match", 0, 0), ("keep", 1)),
            (takes[1], ("match", 0, 1), ("keep", 0)),
        ):
            self.assertIsNone(self.judged(*steps))

    def test_the_empty_plan(self):
        empty = Member((), (), (), (), ())
        self.assertIsNone(judge_plan(empty, ()))
        self.assertIsNone(judge_plan(empty, []))
        self.assertEqual(judge_plan(empty, [("take", 0)]), (0, "row"))
        self.assertEqual(judge_plan(empty, [("keep", 0)]), (0, "test"))
        self.assertEqual(judge_plan(Member((), (SAME,), (), (), ()), ()), (0, "test"))
        self.assertEqual(judge_plan(Member(("t",), (SAME,), (), (), ()), ()), (0, "row"))
        # a test that speaks of no row
        bare = Member((), (("equal", TEXT, TEXT),), (), (), ())
        self.assertIsNone(judge_plan(bare, [("keep", 0)]))

    def test_tests_that_speak_of_no_row(self):
        bare = member(("equal", TEXT, TEXT), ("empty", ("none",)))
        takes = [("take", 0), ("take", 1)]
        for at in range(3):
            self.assertIsNone(judge_plan(bare, takes[:at] + [("keep", 1), ("keep", 0)] + takes[at:]))

    def test_each_word(self):
        for steps, due in (
            ((3,), (0, "step")),
            ((None,), (0, "step")),
            (("take",), (0, "step")),
            (((),), (0, "step")),
            ((("take",),), (0, "step")),
            ((("take", 0, 0),), (0, "step")),
            ((("keep", 0, 0),), (0, "step")),
            ((("match", 0),), (0, "step")),
            ((("match", 0, 0, 0),), (0, "step")),
            ((("choose", 0),), (0, "step")),
            (((["take"], 0),), (0, "step")),
            ((({}, 0),), (0, "step")),
            (((0, "take"),), (0, "step")),
            ((("take", True),), (0, "step")),
            ((("take", "0"),), (0, "step")),
            ((("take", None),), (0, "step")),
            ((("keep", False),), (0, "step")),
            ((("match", 0, True),), (0, "step")),
            ((("match", False, 1),), (0, "step")),
            ((("match", (0,), 1),), (0, "step")),
            (({"take": 0},), (0, "step")),
            ((("take", 2),), (0, "row")),
            ((("take", -1),), (0, "row")),
            ((("match", 2, 0),), (0, "row")),
            ((("match", 2, 9),), (0, "row")),
            ((("match", -1, 0),), (0, "row")),
            ((("match", 0, 2),), (0, "test")),
            ((("match", 0, -1),), (0, "test")),
            ((("keep", 2),), (0, "test")),
            ((("keep", -1),), (0, "test")),
            ((("take", 0), ("take", 0)), (1, "taken")),
            ((("take", 0), ("match", 0, 1)), (1, "taken")),
            ((("match", 0, 1), ("take", 0)), (1, "taken")),
            ((("match", 0, 1), ("match", 0, 1)), (1, "taken")),
            ((("take", 0), ("match", 0, 2)), (1, "test")),
            ((("take", 0), ("keep", 1), ("keep", 1)), (2, "used")),
            ((("match", 0, 1), ("keep", 1)), (1, "used")),
            ((("take", 0), ("keep", 1), ("match", 1, 1)), (2, "used")),
            ((("take", 0), ("match", 1, 1)), (1, "equal")),
            ((("match", 1, 1),), (0, "equal")),
            ((("match", 0, 0),), (0, "early")),
            ((("match", 1, 0),), (0, "early")),
            ((("keep", 1),), (0, "early")),
            ((("take", 0), ("keep", 0)), (1, "early")),
            ((("take", 1), ("keep", 1)), (1, "early")),
            ((), (0, "row")),
            ((("take", 0),), (1, "row")),
            ((("match", 0, 1),), (1, "row")),
            ((("take", 0), ("take", 1)), (2, "test")),
            ((("take", 0), ("match", 1, 0)), (2, "test")),
            ((("match", 0, 1), ("take", 1)), (2, "test")),
            ((("match", 0, 1), ("take", 1), ("take", 2)), (2, "row")),
        ):
            with self.subTest(steps=steps):
                self.assertEqual(self.judged(*steps), due)

    def test_two_sides_for_one_row(self):
        tests = (("equal", DEPT, WHO),)
        self.assertEqual(self.judged(("take", 0), ("match", 1, 0), tests=tests), (1, "early"))
        self.assertEqual(self.judged(("match", 0, 0), tests=tests), (0, "equal"))
        self.assertIsNone(self.judged(("take", 1), ("keep", 0), ("take", 0), tests=tests))

    def test_tests_alike(self):
        tests = (SAME, SAME)
        self.assertIsNone(self.judged(("take", 0), ("match", 1, 0), ("keep", 1), tests=tests))
        self.assertIsNone(self.judged(("take", 0), ("match", 1, 1), ("keep", 0), tests=tests))
        self.assertEqual(self.judged(("take", 0), ("match", 1, 1), ("keep", 1), tests=tests), (2, "used"))

    def test_a_fellow_with_a_sub_question(self):
        tests = (("equal", ("column", 1, "n"), COUNT),)
        self.assertEqual(self.judged(("take", 0), ("match", 1, 0), tests=tests), (1, "equal"))
        self.assertEqual(self.judged(("take", 1), ("keep", 0), tests=tests), (1, "early"))
        self.assertIsNone(self.judged(("take", 0), ("take", 1), ("keep", 0), tests=tests))

    def test_tests_in_any_form(self):
        tests = (("truth", True), ("and", SAME, ("truth", False)), ("truth", False))
        self.assertIsNone(self.judged(("keep", 2), ("take", 1), ("keep", 0), ("take", 0), ("keep", 1), tests=tests))
        self.assertEqual(self.judged(("keep", 2), ("take", 1), ("match", 0, 1), tests=tests), (2, "equal"))

    def test_good_plans_by_chance(self):
        chance = random.Random(202)
        for _ in range(300):
            made = any_member(chance)
            plan = drawn_plan(chance, made)
            self.assertIsNone(judge_plan(made, plan))
            self.assertIsNone(judge_plan(made, listed(plan)))

    def test_changed_plans_by_chance(self):
        chance = random.Random(203)
        bad = 0
        for _ in range(600):
            made = any_member(chance)
            steps = list(drawn_plan(chance, made))
            for _ in range(chance.randrange(1, 3)):
                at = chance.randrange(len(steps) + 1)
                new = chance.choice((("take", chance.randrange(4)), ("keep", chance.randrange(3)),
                                     ("match", chance.randrange(4), chance.randrange(3))))
                steps[at:at + chance.randrange(2)] = chance.choice(([new], [], steps[:1]))
            within = all(step[1] < len(made.tests if step[0] == "keep" else made.tables) and
                         (step[0] != "match" or step[2] < len(made.tests)) for step in steps)
            fault = judge_plan(made, steps)
            self.assertEqual(fault is None, within and is_good(made, steps))
            if fault is not None:
                bad += 1
                at, word = fault
                # what stands ahead of the fault has none, what stands behind it has no effect
                ahead = judge_plan(made, steps[:at])
                self.assertTrue(ahead is None or (ahead[0] == at and ahead[1] in ("row", "test")))
                if at < len(steps):
                    self.assertEqual(judge_plan(made, steps[:at + 1]), fault)
        self.assertGreater(bad, 100)

    def test_long_members(self):
        tests = tuple(("equal", ("column", row, "n"), ("column", row + 1, "n")) for row in range(399))
        made = Member(("t",) * 400, tests, (), tuple(("row", row) for row in range(400)), ())
        plan = [("take", 0)] + [("match", row + 1, row) for row in range(399)]
        self.assertIsNone(judge_plan(made, plan))
        self.assertEqual(judge_plan(made, plan[:-1]), (399, "row"))
        self.assertEqual(judge_plan(made, plan[:5] + plan[6:]), (5, "early"))


if __name__ == "__main__":
    unittest.main()
