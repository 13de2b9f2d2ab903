"""[14.1] to [14.5]."""

import random
import unittest

from listasks.compiling import answers_of, questions_of
from listasks.flatrun import run_plain
from listasks.members import FlatQuestion, Member
from listasks.named import choice_of, deep_tables, fits_key, is_plain, lineage, member_of, rows_named, surviving
from listasks.programs import Program
from listasks.stitching import ids_fault, thing_at, with_keys
from listasks.stores import Store
from listasks.texts import term_of
from listasks.trees import leaf_of
from tests.helping import listed, refusal
from tests.making import DEFINITIONS, HEADS, any_store
from tests.planref import asks_more, cells_in
from tests.test_compiling import ANSWERS, ASKING, STAFF, staff
from tests.test_reading import RichKinds, chance_program

NOTHING = ("record", ())
COUNT = ("count", ("for", "dept", leaf_of((), NOTHING)))
MEMBERS = (
    Member(("dept", "emp"), (), (("part", 1), ("row", 1)), (("row", 0), ("part", 0)), ()),
    Member((), (), (("part", 0),), (("part", 2), ("part", 3)), ()),
    Member(("emp", "emp"), (), (("row", 0),), (("row", 1), ("part", 3)), ()),
    Member(("emp",), (), (("row", 0),), (("row", 0), ("part", 3)), ()),
)
QUESTION = FlatQuestion(("*",), MEMBERS)
# Programs over STAFF and the tables of trees under "empty", "count" and "total" of their members.
PLAIN_TEXTS = (
    ASKING,
    "(for d (table dept) (for e (table emp) (where (less (count (one 1)) 2) (one (field e who)))))",
    "(for e (table emp) (for f (table emp) (where (equal (field e dept) (field f dept)) (one (record a (field e who) b (one f))))))",
    "(for e (table emp) (one (join (for f (table emp) (where (not (equal (field e who) (field f who))) (one (field f who))))"
    " (for d (table dept) (one (field d name))))))",
    "(join (for e (table emp) (one (record a (none) b 1))) (for d (table dept) (one (record a (one (field d name)) b 2))))",
)


def lessened(store, named):
    """The store made of just these of its rows, with their numbers."""
    lots = [(store.following(table), [(number, cells) for number, cells in store.rows_of(table) if (table, number) in named])
            for table, _ in store.heads]
    return Store.from_rows(store.heads, lots)


def all_named(store):
    return [(table, number) for table, _ in store.heads for number, _ in store.rows_of(table)]


class KeysTest(unittest.TestCase):
    def test_fits_key(self):
        items = (("row", 1), ("part", 0), ("row", 0), ("part", 2))
        for key, due in (((5, 0, 7, 2), True), ((0, 0, 0, 2), True), ((5, 1, 7, 2), False), ((5, 0, 7, 0), False),
                         ((5, 0, 7), False), ((5, 0, 7, 2, 1), False), ((), False)):
            self.assertIs(fits_key(items, key), due)
        self.assertIs(fits_key((), ()), True)
        self.assertIs(fits_key((), (0,)), False)
        self.assertIs(fits_key([["part", 1]], [1]), True)

    def test_member_of(self):
        for outer, own, due in (
            ((1, 7), (3, 0), 0),
            ((0,), (2, 3), 1),        # the first that fits
            ((5,), (2, 3), 2),
            ((5,), (5, 3), 2),
            ((1, 7), (3, 1), None),
            ((0, 7), (3, 0), None),
            ((5,), (2, 2), None),
            ((), (), None),
        ):
            self.assertEqual(member_of(QUESTION, (outer, own, ())), due)
            self.assertEqual(member_of(QUESTION, [outer, own, ["x"]]), due)
        self.assertIsNone(member_of(FlatQuestion((), ()), ((), (), ())))

    def test_choice_of(self):
        self.assertEqual(choice_of(MEMBERS[0], ((1, 7), (3, 0), ())), (("dept", 3), ("emp", 7)))
        self.assertEqual(choice_of(MEMBERS[1], ((0,), (2, 3), ("x",))), ())
        self.assertEqual(choice_of(MEMBERS[2], ((5,), (2, 3), ())), (("emp", 5), ("emp", 2)))
        for at, outer, own in ((0, (0, 7), (3, 0)), (0, (1, 7), (3, 1)), (0, (1,), (3, 0)), (0, (1, 7), (3,)), (1, (), (0, 2, 3))):
            self.assertEqual(refusal(choice_of, MEMBERS[at], (outer, own, ())), ("BadKey",))

    def test_rows_named(self):
        self.assertEqual(rows_named(QUESTION, ((1, 7), (3, 0), ())), (("dept", 3), ("emp", 7)))
        self.assertEqual(rows_named(QUESTION, ((1, 2), (3, 0), ())), (("dept", 3), ("emp", 2)))
        self.assertEqual(rows_named(QUESTION, ((0,), (2, 3), ())), ())
        self.assertEqual(rows_named(QUESTION, ((5,), (2, 3), ())), (("emp", 2), ("emp", 5)))
        self.assertEqual(rows_named(QUESTION, ((5,), (5, 3), ())), (("emp", 5),))
        self.assertEqual(refusal(rows_named, QUESTION, ((5,), (5, 4), ())), ("BadKey",))
        many = Member(("b", "a", "b", "a"), (), (), tuple(("row", row) for row in range(4)), ())
        self.assertEqual(rows_named(FlatQuestion((), (many,)), ((), (10, 2, 9, 2), ())), (("a", 2), ("b", 9), ("b", 10)))

    def test_rows_of_programs(self):
        chance = random.Random(270)
        with RichKinds():
            for _ in range(150):
                program = chance_program(chance)
                store = any_store(chance)
                for question in questions_of(program):
                    for number, member in enumerate(question):
                        for row in run_plain(FlatQuestion((), (member,)), store):
                            fits = [at for at, other in enumerate(question)
                                    if fits_key(other.outer, row[0]) and fits_key(other.own, row[1])]
                            self.assertEqual(fits, [number])
                            self.assertEqual(member_of(question, row), number)
                            choice = choice_of(member, row)
                            self.assertEqual([table for table, _ in choice], list(member.tables))
                            self.assertEqual(rows_named(question, row), tuple(sorted(set(choice))))
                            for table, at in choice:
                                self.assertIn(at, dict(store.rows_of(table)))


class PlainTest(unittest.TestCase):
    def test_deep_tables(self):
        deep = ("total", ("for", "b", leaf_of([("empty", ("for", "d", leaf_of((), NOTHING)))], COUNT)))
        bare = ("count", leaf_of((), NOTHING))
        for tests, cells, due, plain in (
            ((), (), (), True),
            ((("equal", ("column", 0, "count"), ("text", "empty")),), (("text", "total"),), (), True),
            ((), (COUNT,), ("dept",), False),
            ((("equal", COUNT, ("number", 1)),), (), ("dept",), False),
            ((("not", ("equal", ("plus", COUNT, COUNT), ("number", 1))),), (deep,), ("b", "d", "dept"), False),
            ((("empty", ("none",)),), (), (), False),
            ((), (("if", ("empty", ("none",)), ("number", 1), ("number", 2)),), (), False),
            ((), (("number", 1), ("plus", ("number", 1), bare)), (), False),
        ):
            member = Member(("emp", "zoo"), tests, (), (("row", 0), ("row", 1)), cells)
            self.assertEqual(deep_tables(member), due)
            self.assertIs(is_plain(member), plain)

    def test_by_chance(self):
        chance = random.Random(271)
        kinds = {True: 0, False: 0}
        with RichKinds():
            for _ in range(150):
                for question in questions_of(chance_program(chance)):
                    for member in question:
                        inner = list(cells_in(member.tests + member.cells))
                        self.assertEqual(deep_tables(member), tuple(sorted({node[1] for node in inner if node[:1] == ("for",)})))
                        self.assertEqual(is_plain(member), not any(asks_more(cell) for cell in member.tests + member.cells))
                        kinds[is_plain(member)] += 1
        self.assertGreater(min(kinds.values()), 20)


class SurvivingTest(unittest.TestCase):
    def test_surviving(self):
        question = questions_of(Program(STAFF, [], term_of(ASKING)))[1]
        rows = ANSWERS[1]
        for gone, due in (((), rows), ([("dept", 1)], rows[2:]), ([["emp", 3]], (rows[0], rows[2])), ([("emp", 1), ("dept", 2)], rows[1:2]),
                          ([("emp", 9), ("zoo", 1)], rows), ((("dept", 1), ("dept", 2)), ())):
            self.assertEqual(surviving(question, rows, gone), due)
            self.assertEqual(surviving(question, listed(rows), gone), due)
        # in the order of the rows
        self.assertEqual(surviving(question, rows[::-1], [("emp", 3)]), (rows[2], rows[0]))
        self.assertEqual(surviving(question, (), [("emp", 3)]), ())

    def test_bad_keys(self):
        question = questions_of(Program(STAFF, [], term_of(ASKING)))[1]
        self.assertEqual(refusal(surviving, question, [*ANSWERS[1], ((), (1,), ("a",))], [("dept", 1)]), ("BadKey",))
        self.assertEqual(refusal(surviving, FlatQuestion((), ()), [((), (), ())], []), ("BadKey",))
        self.assertEqual(surviving(FlatQuestion((), ()), [], []), ())

    def test_what_is_passed_stays(self):
        question = questions_of(Program(STAFF, [], term_of(ASKING)))[1]
        rows, gone = listed(ANSWERS[1]), [["emp", 3]]
        told = surviving(question, rows, gone)
        self.assertEqual((rows, gone), (listed(ANSWERS[1]), [["emp", 3]]))
        rows[0][2][0] = "z"
        rows[0][1][0] = 9
        self.assertEqual(told[0], ANSWERS[1][0])

    def test_stores_with_rows_taken(self):
        chance = random.Random(272)
        lost = 0
        for program, store in plain_programs(chance, 120):
            named = all_named(store)
            gone = chance.sample(named, chance.randrange(len(named) + 1))
            smaller = store.copied()
            for table, number in gone:
                smaller.take(table, number)
            for question in questions_of(program):
                rows = run_plain(question, store)
                self.assertEqual(run_plain(question, smaller), surviving(question, rows, gone))
                lost += len(rows) - len(run_plain(question, smaller))
        self.assertGreater(lost, 50)


def plain_programs(chance, count):
    """Programs all of whose members are plain, each with a store."""
    found = []
    with RichKinds():
        while len(found) < count - 60:
            program = chance_program(chance)
            if all(is_plain(member) for question in questions_of(program) for member in question):
                found.append((program, any_store(chance)))
    for text in PLAIN_TEXTS:
        program = Program(STAFF, [], term_of(text))
        for _ in range(12):
            store = staff()
            for table in chance.choices(("dept", "emp"), k=3):
                store.put(table, tuple(chance.choice("abc") for _ in range(1 if table == "dept" else 2)))
            found.append((program, store))
    return found


class LineageTest(unittest.TestCase):
    def setUp(self):
        self.questions = questions_of(Program(STAFF, [], term_of(ASKING)))

    def test_lineage(self):
        for place, key, due in (
            (0, (1,), (("dept", 1), ("emp", 1), ("emp", 3))),
            (0, (2,), (("dept", 2), ("emp", 2))),
            (1, (1, 3), (("dept", 1), ("emp", 3))),
            (1, (2, 2), (("dept", 2), ("emp", 2))),
        ):
            self.assertEqual(lineage(self.questions, ANSWERS, place, key), due)
            self.assertEqual(lineage(list(self.questions), listed(ANSWERS), place, key), due)

    def test_a_thing_without_rows_within(self):
        store = staff()
        store.put("dept", ("c",))
        answers = answers_of(self.questions, store)
        self.assertEqual(lineage(self.questions, answers, 0, (3,)), (("dept", 3),))

    def test_rows_that_are_named_more_than_once(self):
        program = Program(STAFF, [], term_of(
            "(for e (table emp) (one (record a (for f (table emp) (one (field f who))) b (field e who))))"))
        questions = questions_of(program)
        answers = answers_of(questions, staff())
        self.assertEqual(lineage(questions, answers, 0, (3,)), (("emp", 1), ("emp", 2), ("emp", 3)))
        self.assertEqual(lineage(questions, answers, 1, (3, 3)), (("emp", 3),))

    def test_places_beside_are_left_out(self):
        program = Program(STAFF, [], term_of(
            "(for d (table dept) (one (record a (for e (table emp) (one (one e))) b (for f (table dept) (one (field f name))))))"))
        questions = questions_of(program)
        answers = answers_of(questions, staff())
        self.assertEqual([question.place for question in questions], [(), ("*", "a"), ("*", "a", "*"), ("*", "b")])
        self.assertEqual(lineage(questions, answers, 1, (1, 2)), (("dept", 1), ("emp", 2)))
        self.assertEqual(lineage(questions, answers, 3, (1, 2)), (("dept", 1), ("dept", 2)))
        self.assertEqual(lineage(questions, answers, 0, (1,)),
                         (("dept", 1), ("dept", 2), ("emp", 1), ("emp", 2), ("emp", 3)))

    def test_no_such_place_and_no_key(self):
        for place in (2, -1, True, False, None, "0"):
            self.assertEqual(refusal(lineage, self.questions, ANSWERS, place, (9,)), ("NoSuchPlace", place))
        for place, key in ((0, (3,)), (0, ()), (0, (1, 3)), (1, (1,)), (1, (1, 2)), (1, (1, 3, 0))):
            self.assertEqual(refusal(lineage, self.questions, ANSWERS, place, key), ("NoKey", place, key))
        self.assertEqual(refusal(lineage, (), (), 0, ()), ("NoSuchPlace", 0))

    def test_the_least_store_that_a_thing_needs(self):
        chance = random.Random(273)
        there, away = 0, 0
        for program, store in plain_programs(chance, 120):
            questions = questions_of(program)
            answers = answers_of(questions, store)
            keyed = with_keys(answers)
            spots = [(place, key) for place, rows in enumerate(keyed) for _, key, _ in rows]
            for place, key in chance.sample(spots, min(3, len(spots))):
                needed = lineage(questions, answers, place, key)
                self.assertEqual(list(needed), sorted(set(needed)))
                thing = thing_at(program.kind, keyed, place, key)
                for named in some_lots(chance, all_named(store), needed):
                    smaller = with_keys(answers_of(questions, lessened(store, named)))
                    self.assertIsNone(ids_fault(program.kind, smaller))
                    same = key in [own for _, own, _ in smaller[place]] and thing_at(program.kind, smaller, place, key) == thing
                    self.assertEqual(same, set(needed) <= set(named))
                    there, away = there + same, away + (not same)
        self.assertGreater(min(there, away), 100)

    def test_definitions(self):
        program = Program(HEADS, DEFINITIONS, term_of("(for e emps (one (use dup (field e who))))"))
        store = Store(HEADS)
        store.put("emp", (1, True, "a"))
        questions = questions_of(program)
        answers = answers_of(questions, store)
        self.assertEqual(lineage(questions, answers, 0, (1,)), (("emp", 1),))
        self.assertEqual(lineage(questions, answers, 1, (1, 1)), (("emp", 1),))


def some_lots(chance, named, needed):
    """The needed rows alone, each of them away, and rows by chance."""
    lots = [list(needed), list(named)]
    lots += [[couple for couple in named if couple != away] for away in needed]
    lots += [chance.sample(named, chance.randrange(len(named) + 1)) for _ in range(2)]
    lots += [sorted(set(chance.sample(named, chance.randrange(len(named) + 1))) | set(needed))]
    return lots


if __name__ == "__main__":
    unittest.main()
