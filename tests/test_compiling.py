"""[10.5] to [10.7], and what the parts before promise of questions."""

import random
import unittest

from listasks.chains import judge_chain, led_by, on_steps, settled_program
from listasks.compiling import answers_of, ask_by_rows, questions_of
from listasks.errors import BadChain, BadTerm
from listasks.flatrun import run_plain
from listasks.kinds import ask_count, list_places
from listasks.meaning import meaning
from listasks.members import FlatQuestion, Member
from listasks.programs import Program, without_definitions
from listasks.reading import read
from listasks.shredding import shred
from listasks.stores import Store
from listasks.texts import term_of
from tests.making import DEFINITIONS, HEADS, any_store
from tests.making_trees import KINDS, any_canonical, any_rows
from tests.test_reading import ASKINGS, RichKinds, chance_program

STAFF = [("dept", [("name", "text")]), ("emp", [("dept", "text"), ("who", "text")])]
ASKING = ("(for d (table dept) (one (record a (field d name) b (for e (table emp)"
          " (where (equal (field e dept) (field d name)) (one (field e who)))))))")


def staff():
    store = Store(STAFF)
    for name in "ab":
        store.put("dept", (name,))
    for cells in (("a", "ann"), ("b", "bob"), ("a", "cy")):
        store.put("emp", cells)
    return store


ANSWERS = (
    (((), (1,), ("a",)), ((), (2,), ("b",))),
    (((1,), (1,), ("ann",)), ((1,), (3,), ("cy",)), ((2,), (2,), ("bob",))),
)


def put_together(kind, answers):
    """The value that answers tell, put together by their keys alone."""
    found = dict(zip(list_places(kind), answers))

    def list_at(inner, place, whole):
        values = []
        for outer, own, cells in found[place]:
            if outer == whole:
                rest = list(cells)
                values.append(value_at(inner[1], place + ("*",), rest, outer + own))
        return values

    def value_at(inner, place, rest, whole):
        if isinstance(inner, str):
            return rest.pop(0)
        if inner[0] == "list":
            return list_at(inner, place, whole)
        return tuple((label, value_at(part, place + (label,), rest, whole)) for label, part in inner[1])

    return list_at(kind, (), ())


def around(place):
    """The place of the list around the list at a place."""
    return place[:max(at for at, step in enumerate(place) if step == "*")]


class CompilingTest(unittest.TestCase):
    def test_the_example(self):
        program = Program(STAFF, [], term_of(ASKING))
        questions = questions_of(program)
        test = ("equal", ("column", 1, "dept"), ("column", 0, "name"))
        self.assertEqual(questions, (
            FlatQuestion((), (Member(("dept",), (), (), (("row", 0),), (("column", 0, "name"),)),)),
            FlatQuestion(("*", "b"), (Member(("dept", "emp"), (test,), (("row", 0),), (("row", 1),), (("column", 1, "who"),)),)),
        ))
        store = staff()
        self.assertEqual(answers_of(questions, store), ANSWERS)
        self.assertEqual(ask_by_rows(questions, store), (ANSWERS, 3))
        passed = list(questions)
        self.assertEqual(answers_of(passed, store), ANSWERS)
        self.assertEqual(ask_by_rows(passed, store), (ANSWERS, 3))
        self.assertEqual(tuple(passed), questions)
        self.assertEqual(store, staff())

    def test_each_question_is_run_once(self):
        questions = questions_of(Program(STAFF, [], term_of(ASKING)))
        store = staff()
        self.assertEqual(answers_of(questions, store), tuple(run_plain(question, store) for question in questions))
        self.assertEqual(answers_of(questions[1:], store), ANSWERS[1:])
        self.assertEqual(answers_of((), store), ())
        self.assertEqual(answers_of(questions, Store(STAFF)), ((), ()))

    def test_the_count_of_askings(self):
        for text, count in (
            ("(one 1)", 1),
            ("(as (none) (list (list int)))", 1),
            ("(one (one (one 1)))", 3),
            ("(join (one (none)) (join (one (one 1)) (one (join (one 1) (one 2)))))", 4),
            ("(for d (table dept) (one (table emp)))", 3),
            ("(for d (table dept) (one (record a (table emp) b (table dept))))", 5),
            ("(for d (table dept) (one (record a (for e (table emp) (one (table dept))))))", 1 + 2 + 6),
            ("(for d (table dept) (one (for e (table emp) (where (equal (field e dept) (field d name)) (one (table dept))))))",
             1 + 2 + 3),
        ):
            questions = questions_of(Program(STAFF, [], term_of(text)))
            answers, told = ask_by_rows(questions, staff())
            self.assertEqual((answers, told), (answers_of(questions, staff()), count))

    def test_as_many_questions_as_lists(self):
        chance = random.Random(110)
        for _ in range(150):
            program = chance_program(chance)
            questions = questions_of(program)
            self.assertEqual(len(questions), ask_count(program.kind))
            self.assertEqual(tuple(question.place for question in questions), list_places(program.kind))
            self.assertEqual(questions, shred(read(program), program.kind))

    def test_answers_by_chance(self):
        chance = random.Random(111)
        with RichKinds():
            for _ in range(200):
                program = chance_program(chance)
                questions = questions_of(program)
                store = any_store(chance)
                before = store.copied()
                answers = answers_of(questions, store)
                self.assertEqual(put_together(program.kind, answers), meaning(program, store))
                self.check_askings(questions, answers, store)
                self.check_keys(questions, answers)
                self.assertEqual(store, before)

    def test_families_by_chance(self):
        chance = random.Random(112)
        for _ in range(200):
            kind = ("list", chance.choice(KINDS))
            store = any_rows(chance)
            questions = shred(any_canonical(chance, kind[1], deep=5), kind)
            answers = answers_of(questions, store)
            self.check_askings(questions, answers, store)
            self.check_keys(questions, answers)

    def check_askings(self, questions, answers, store):
        rows = {question.place: len(lot) for question, lot in zip(questions, answers)}
        count = 1 + sum(rows[around(question.place)] for question in questions if question.place)
        self.assertEqual(ask_by_rows(questions, store), (answers, count))

    def check_keys(self, questions, answers):
        wholes = {}
        for question, rows in zip(questions, answers):
            wholes[question.place] = [outer + own for outer, own, _ in rows]
            self.assertEqual(len(rows), len(set(wholes[question.place])))
            lots = {}
            for outer, own, _ in rows:
                if question.place:
                    self.assertEqual(wholes[around(question.place)].count(outer), 1)
                for other in lots.get(outer, []):
                    self.assertFalse(own[:len(other)] == other or other[:len(own)] == own)
                lots.setdefault(outer, []).append(own)


class RewritingTest(unittest.TestCase):
    def test_good_chains_leave_the_questions(self):
        for rule, text in ASKINGS:
            program = Program(HEADS, DEFINITIONS, term_of(text))
            questions = questions_of(program)
            for step in on_steps(program):
                if step[1] == rule and judge_chain(program, [step]) is None:
                    self.assertEqual(questions_of(led_by(program, [step])), questions)
            self.assertEqual(questions_of(settled_program(program)), questions)
            self.assertEqual(questions_of(without_definitions(program)), questions)

    def test_by_chance(self):
        chance = random.Random(113)
        for _ in range(80):
            program = chance_program(chance)
            questions = questions_of(program)
            for change in (settled_program, without_definitions):
                try:
                    changed = change(program)
                except (BadChain, BadTerm):
                    continue
                self.assertEqual(questions_of(changed), questions)

    def test_definitions_used_at_many_kinds(self):
        text = ("(for e (table emp) (one (record a (use dup (field e age)) b (use dup (field e who)) c (use dup e)"
                " d (use both (one (field e boss))))))")
        program = Program(HEADS, DEFINITIONS, term_of(text))
        questions = questions_of(program)
        self.assertEqual([question.place for question in questions],
                         [(), ("*", "a"), ("*", "b"), ("*", "c"), ("*", "d"), ("*", "d", "*"), ("*", "d", "*", "*")])
        self.assertEqual([len(question.members) for question in questions], [1, 2, 2, 2, 2, 4, 4])
        self.assertEqual(questions_of(without_definitions(program)), questions)


if __name__ == "__main__":
    unittest.main()
