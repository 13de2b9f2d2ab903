"""[11.4] and [11.6] to [11.9]."""

import random
import unittest

from listasks.judge import judge_plan, matches_of
from listasks.members import Member
from listasks.plans import all_plans, changed_plan, plain_plan, plan_for, way_between, way_to_plain
from tests.helping import listed, refusal
from tests.planref import any_member, drawn_plan, good_plans, rows_in
from tests.test_judge import COUNT, DEPT, NAME, SAME, TEXT, member

TAKES = ("take", 0), ("take", 1)
KEEPS = ("keep", 0), ("keep", 1)
EMPTY = Member((), (), (), (), ())


def step_back(change):
    word, at = change
    return ({"swap": "swap", "split": "join", "join": "split"}[word], at)


def walked(made, plan, way):
    """The plan behind a way; each plan on the way is good."""
    for change in way:
        plan = changed_plan(made, plan, change)
        assert judge_plan(made, plan) is None
    return plan


class PlainTest(unittest.TestCase):
    def test_plain_plan(self):
        self.assertEqual(plain_plan(EMPTY), ())
        self.assertEqual(plain_plan(member()), TAKES)
        self.assertEqual(plain_plan(member(SAME, SAME)), TAKES + KEEPS)
        self.assertEqual(plain_plan(Member((), (SAME,), (), (), ())), (("keep", 0),))

    def test_it_is_good(self):
        chance = random.Random(210)
        for _ in range(200):
            made = any_member(chance)
            self.assertIsNone(judge_plan(made, plain_plan(made)))


class AllPlansTest(unittest.TestCase):
    def test_the_example(self):
        self.assertEqual(list(all_plans(member(SAME))), [
            (("take", 0), ("take", 1), ("keep", 0)),
            (("take", 0), ("match", 1, 0)),
            (("take", 1), ("take", 0), ("keep", 0)),
            (("take", 1), ("match", 0, 0)),
        ])

    def test_the_empty_plan(self):
        self.assertEqual(list(all_plans(EMPTY)), [()])

    def test_order(self):
        tests = (("equal", NAME, TEXT), ("equal", TEXT, TEXT))
        plans = list(all_plans(member(*tests, tables=("t",))))
        self.assertEqual(plans, [
            (("take", 0), ("keep", 0), ("keep", 1)),
            (("take", 0), ("keep", 1), ("keep", 0)),
            (("match", 0, 0), ("keep", 1)),
            (("keep", 1), ("take", 0), ("keep", 0)),
            (("keep", 1), ("match", 0, 0)),
        ])
        # two matches by r, then by t
        tests = (("equal", ("column", 1, "n"), TEXT), ("equal", NAME, TEXT), ("equal", NAME, ("text", "b")))
        firsts = []
        for plan in all_plans(member(*tests)):
            if plan[0] not in firsts:
                firsts.append(plan[0])
        self.assertEqual(firsts, [("take", 0), ("take", 1), ("match", 0, 1), ("match", 0, 2), ("match", 1, 0)])

    def test_too_wide(self):
        wide = Member(("t",) * 5, (SAME,) * 4, (), (), ())
        self.assertEqual(refusal(lambda made: list(all_plans(made)), wide), ("TooWide", "rows"))
        self.assertEqual(refusal(lambda made: list(all_plans(made)), Member(("t",) * 5, (), (), (), ())), ("TooWide", "rows"))
        self.assertEqual(refusal(lambda made: list(all_plans(made)), Member(("t",) * 4, (SAME,) * 4, (), (), ())),
                         ("TooWide", "tests"))
        bare = ("equal", TEXT, TEXT)
        self.assertEqual(len(list(all_plans(Member(("t",) * 4, (bare,) * 3, (), (), ())))), 7 * 6 * 5 * 4 * 3 * 2)

    def test_against_all_sequences_of_steps(self):
        chance = random.Random(211)
        most = 0
        for _ in range(120):
            made = any_member(chance, tables=3, tests=2 if chance.random() < 0.8 else 3)
            plans = list(all_plans(made))
            self.assertEqual(plans, good_plans(made))
            self.assertEqual(len(plans), len(set(plans)))
            most = max(most, len(plans))
        self.assertGreater(most, 100)

    def test_wide_members(self):
        tests = (("equal", ("column", 0, "n"), ("column", 1, "n")), ("equal", ("column", 1, "n"), ("column", 2, "n")),
                 ("equal", ("column", 2, "n"), ("column", 3, "n")))
        made = Member(("t",) * 4, tests, (), (), ())
        plans = list(all_plans(made))
        self.assertEqual(len(plans), len(set(plans)))
        self.assertEqual(plans, sorted(plans, key=lambda plan: [(("take", "match", "keep").index(step[0]), *step[1:])
                                                                 for step in plan]))
        for plan in plans[::40]:
            self.assertIsNone(judge_plan(made, plan))
        self.assertEqual(plans[0], plain_plan(made))
        # as many as there are ways to go on from each beginning, counted apart
        counts = {}

        def count(taken, used):
            if (taken, used) not in counts:
                rows = [row for row in range(4) if row not in taken]
                ends = [taken | {row} for row in rows]
                total = sum(count(end, used) for end in ends)
                for row in rows:
                    for test in range(3):
                        if test not in used and {test, test + 1} - taken == {row}:
                            total += count(taken | {row}, used | {test})
                total += sum(count(taken, used | {test}) for test in range(3)
                             if test not in used and {test, test + 1} <= taken)
                counts[(taken, used)] = total or 1
            return counts[(taken, used)]

        self.assertEqual(len(plans), count(frozenset(), frozenset()))


class PlanForTest(unittest.TestCase):
    def test_the_example(self):
        self.assertEqual(plan_for(member(SAME), {"dept": 5, "emp": 2}), (("take", 1), ("match", 0, 0)))
        self.assertEqual(plan_for(member(SAME), {"dept": 2, "emp": 5}), (("take", 0), ("match", 1, 0)))

    def test_ties_and_sizes(self):
        for sizes in ({"dept": 3, "emp": 3}, {"dept": 0, "emp": 0}, {"dept": 0, "emp": 10 ** 40}, {"dept": 10 ** 40, "emp": 10 ** 40}):
            self.assertEqual(plan_for(member(SAME), sizes), (("take", 0), ("match", 1, 0)))
        self.assertEqual(plan_for(member(SAME), {"dept": 10 ** 40 + 1, "emp": 10 ** 40}), (("take", 1), ("match", 0, 0)))
        self.assertEqual(plan_for(member(SAME), {"dept": 1, "emp": 0, "more": 7}), (("take", 1), ("match", 0, 0)))
        self.assertEqual(plan_for(member(tables=("b", "a", "b", "a")), {"a": 4, "b": 4}), tuple(("take", row) for row in range(4)))
        self.assertEqual(plan_for(member(tables=("b", "a", "b", "a")), {"a": 3, "b": 4}),
                         (("take", 1), ("take", 3), ("take", 0), ("take", 2)))
        self.assertEqual(plan_for(EMPTY, {}), ())

    def test_keeps_come_as_soon_as_they_can_and_least_first(self):
        tests = (("less", DEPT, NAME), ("less", NAME, TEXT), ("equal", TEXT, TEXT), ("empty", ("none",)))
        self.assertEqual(plan_for(member(*tests), {"dept": 1, "emp": 2}),
                         (("keep", 2), ("keep", 3), ("take", 0), ("keep", 1), ("take", 1), ("keep", 0)))
        self.assertEqual(plan_for(member(*tests), {"dept": 2, "emp": 1}),
                         (("keep", 2), ("keep", 3), ("take", 1), ("take", 0), ("keep", 0), ("keep", 1)))

    def test_the_least_match_comes_and_the_others_are_kept(self):
        tests = (("equal", ("column", 1, "n"), COUNT), SAME, ("equal", DEPT, TEXT), SAME)
        self.assertEqual(plan_for(member(*tests), {"dept": 1, "emp": 2}),
                         (("take", 0), ("match", 1, 1), ("keep", 0), ("keep", 2), ("keep", 3)))
        self.assertEqual(plan_for(member(*tests), {"dept": 2, "emp": 1}),
                         (("match", 1, 2), ("match", 0, 1), ("keep", 0), ("keep", 3)))

    def test_by_chance(self):
        chance = random.Random(212)
        for _ in range(400):
            made = any_member(chance)
            sizes = {table: chance.choice((0, 1, 2, 5, 5, 10 ** 30)) for table in ("dept", "emp")}
            before = dict(sizes)
            plan = plan_for(made, sizes)
            self.assertEqual(sizes, before)
            self.assertIsNone(judge_plan(made, plan))
            self.assertEqual(plan, by_the_rule(made, sizes))

    def test_long_members(self):
        tests = tuple(("equal", ("column", row, "n"), ("column", row + 1, "n")) for row in range(299))
        made = Member(("t",) * 300, tests, (), (), ())
        self.assertEqual(plan_for(made, {"t": 3}), (("take", 0),) + tuple(("match", row + 1, row) for row in range(299)))


def by_the_rule(made, sizes):
    """The plan of [11.7], word by word."""
    depth = len(made.tables)
    chosen, used, steps = [], [], []
    while len(chosen) < depth or len(used) < len(made.tests):
        ready = [number for number, test in enumerate(made.tests)
                 if number not in used and rows_in(test, depth) <= set(chosen)]
        if ready:
            steps.append(("keep", ready[0]))
            used.append(ready[0])
            continue
        row = min((row for row in range(depth) if row not in chosen), key=lambda row: (sizes[made.tables[row]], row))
        matches = matches_of(made, row, chosen)
        steps.append(("match", row, matches[0]) if matches else ("take", row))
        used += matches[:1]
        chosen.append(row)
    return tuple(steps)


class ChangesTest(unittest.TestCase):
    def setUp(self):
        self.member = member(SAME, ("equal", NAME, TEXT))

    def test_each_change(self):
        plan = (*TAKES, *KEEPS)
        for change, due in (
            (("swap", 0), (*TAKES[::-1], *KEEPS)),
            (("swap", 2), (*TAKES, *KEEPS[::-1])),
            (["swap", 0], (*TAKES[::-1], *KEEPS)),
            (("join", 1), (TAKES[0], ("match", 1, 0), KEEPS[1])),
        ):
            self.assertEqual(changed_plan(self.member, plan, change), due)
            self.assertEqual(changed_plan(self.member, listed(plan), change), due)
        plan = (("match", 0, 1), ("match", 1, 0))
        self.assertEqual(changed_plan(self.member, plan, ("split", 0)), (("take", 0), ("keep", 1), ("match", 1, 0)))
        self.assertEqual(changed_plan(self.member, plan, ("split", 1)), (("match", 0, 1), ("take", 1), ("keep", 0)))

    def test_each_word(self):
        matched = (("match", 0, 1), ("match", 1, 0))
        for plan, change, word in (
            (matched, "split", "change"),
            (matched, None, "change"),
            (matched, (), "change"),
            (matched, ("split",), "change"),
            (matched, ("split", 0, 0), "change"),
            (matched, ("cut", 0), "change"),
            (matched, (0, "split"), "change"),
            (matched, (["split"], 0), "change"),
            (matched, ("split", "0"), "change"),
            (matched, ("split", True), "change"),
            (matched, ("swap", None), "change"),
            (matched, ("cut", 9), "change"),
            (matched, ("split", 2), "at"),
            (matched, ("split", -1), "at"),
            (matched, ("swap", -1), "at"),
            (matched, ("swap", 1), "at"),
            (matched, ("join", 1), "at"),
            (matched, ("join", -1), "at"),
            ((*TAKES, *KEEPS), ("split", 4), "at"),
            ((*TAKES, *KEEPS), ("swap", 3), "at"),
            ((*TAKES, *KEEPS), ("split", 0), "step"),
            ((*TAKES, *KEEPS), ("split", 3), "step"),
            ((*TAKES, *KEEPS), ("join", 0), "step"),
            ((*TAKES, *KEEPS), ("join", 2), "step"),
            (matched, ("join", 0), "step"),
            ((TAKES[0], KEEPS[1], TAKES[1], KEEPS[0]), ("join", 1), "step"),
            ((*TAKES, *KEEPS), ("swap", 1), "plan"),
            (matched, ("swap", 0), "plan"),
            ((*TAKES, *KEEPS[::-1]), ("join", 1), "plan"),
            ((TAKES[0], ("match", 1, 0), KEEPS[1]), ("swap", 0), "plan"),
        ):
            with self.subTest(plan=plan, change=change):
                self.assertEqual(refusal(changed_plan, self.member, plan, change), ("BadChange", word))
        self.assertEqual(refusal(changed_plan, EMPTY, (), ("split", 0)), ("BadChange", "at"))
        self.assertEqual(refusal(changed_plan, EMPTY, (), ("swap", -1)), ("BadChange", "at"))
        # a test whose fellow has a sub-question, or with two sides for one row, cannot be joined
        for test in (("equal", ("column", 1, "n"), COUNT), ("equal", DEPT, ("column", 1, "who"))):
            made = member(test)
            self.assertEqual(refusal(changed_plan, made, plain_plan(made), ("join", 1)), ("BadChange", "plan"))

    def test_what_is_passed_stays(self):
        plan, change = [["match", 0, 1], ["match", 1, 0]], ["split", 0]
        told = changed_plan(self.member, plan, change)
        self.assertEqual((plan, change), ([["match", 0, 1], ["match", 1, 0]], ["split", 0]))
        plan[1][0] = "take"
        self.assertEqual(told, (("take", 0), ("keep", 1), ("match", 1, 0)))

    def test_all_changes_of_all_plans(self):
        chance = random.Random(213)
        for _ in range(25):
            made = any_member(chance, tables=3, tests=2)
            plans = list(all_plans(made))
            for plan in plans:
                for word in ("swap", "split", "join"):
                    for at in range(-1, len(plan) + 1):
                        told = refusal(changed_plan, made, plan, (word, at))
                        if told is None:
                            other = changed_plan(made, plan, (word, at))
                            self.assertIn(other, plans)
                            self.assertEqual(changed_plan(made, other, step_back((word, at))), plan)
                        else:
                            self.assertEqual(told[0], "BadChange")
                            self.assertEqual(told[1] == "at", at < 0 or at + (word != "split") >= len(plan))


class WaysTest(unittest.TestCase):
    def test_the_example(self):
        made = member(SAME)
        plan = (("take", 1), ("match", 0, 0))
        self.assertEqual(way_to_plain(made, plan), (("split", 1), ("swap", 0)))
        self.assertEqual(way_between(made, plan, (("take", 0), ("match", 1, 0))), (("split", 1), ("swap", 0), ("join", 1)))
        self.assertEqual(way_between(made, plan, plain_plan(made)), (("split", 1), ("swap", 0)))
        self.assertEqual(way_between(made, plain_plan(made), plan), (("swap", 0), ("join", 1)))
        self.assertEqual(way_to_plain(made, plain_plan(made)), ())
        self.assertEqual(way_to_plain(EMPTY, ()), ())
        self.assertEqual(way_between(EMPTY, (), ()), ())

    def test_splits_come_first_and_the_first_match_first(self):
        made = member(SAME, ("equal", NAME, TEXT), ("equal", TEXT, TEXT))
        plan = [["keep", 2], ["match", 0, 1], ["match", 1, 0]]
        due = (("split", 1), ("split", 3),
               ("swap", 0), ("swap", 1), ("swap", 2), ("swap", 1), ("swap", 3), ("swap", 2), ("swap", 3))
        told = way_to_plain(made, plan)
        self.assertEqual(told[:2], due[:2])
        self.assertEqual(walked(made, plan, told), plain_plan(made))
        self.assertEqual(plan, [["keep", 2], ["match", 0, 1], ["match", 1, 0]])
        self.assertEqual(told, by_the_words(made, plan))

    def test_by_chance(self):
        chance = random.Random(214)
        longest = 0
        for _ in range(200):
            made = any_member(chance)
            one, other = drawn_plan(chance, made), drawn_plan(chance, made)
            way = way_to_plain(made, one)
            longest = max(longest, len(way))
            self.assertEqual(way, by_the_words(made, one))
            self.assertEqual(way_to_plain(made, listed(one)), way)
            self.assertEqual(walked(made, one, way), plain_plan(made))
            back = tuple(step_back(change) for change in reversed(way_to_plain(made, other)))
            between = way_between(made, one, other)
            self.assertEqual(between, way + back)
            self.assertEqual(walked(made, one, between), other)
            self.assertEqual(walked(made, other, way_between(made, other, one)), one)
        self.assertGreater(longest, 8)

    def test_long_plans(self):
        made = Member(("t",) * 150, (), (), (), ())
        plan = tuple(("take", row) for row in reversed(range(150)))
        way = way_to_plain(made, plan)
        self.assertEqual(len(way), 150 * 149 // 2)
        steps = list(plan)
        for word, at in way:
            self.assertEqual((word, steps[at] > steps[at + 1]), ("swap", True))
            steps[at:at + 2] = steps[at:at + 2][::-1]
        self.assertEqual(tuple(steps), plain_plan(made))


def by_the_words(made, plan):
    """The way of [11.9], looking for the first match and the first wrong couple anew each time."""
    steps, way = [tuple(step) for step in plan], []
    while any(step[0] == "match" for step in steps):
        at = [step[0] for step in steps].index("match")
        _, row, test = steps[at]
        steps[at:at + 1] = [("take", row), ("keep", test)]
        way.append(("split", at))
    while True:
        wrong = [at for at in range(len(steps) - 1)
                 if (steps[at][0], steps[at + 1][0]) == ("keep", "take")
                 or (steps[at][0] == steps[at + 1][0] and steps[at][1] > steps[at + 1][1])]
        if not wrong:
            return tuple(way)
        steps[wrong[0]:wrong[0] + 2] = steps[wrong[0]:wrong[0] + 2][::-1]
        way.append(("swap", wrong[0]))


if __name__ == "__main__":
    unittest.main()
