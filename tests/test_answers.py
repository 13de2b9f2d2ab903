"""[0.1], [12.8], [13.5], [13.9] and [13.10] of whole programs: any good plans, any ids, the meaning's value."""

import random
import unittest

from listasks.compiling import answers_of, questions_of
from listasks.kinds import ask_count
from listasks.meaning import meaning
from listasks.numbering import even_numbers, numbered_answers
from listasks.planrun import plans_for, run_question, sizes_of
from listasks.plans import all_plans
from listasks.programs import Program, without_definitions
from listasks.questions import question_of, question_text
from listasks.stitching import ids_fault, stitch, thing_at, with_keys
from listasks.streams import Stitcher, merged_rows, stream
from listasks.texts import term_of
from tests.helping import listed, refusal
from tests.making import DEFINITIONS, HEADS, any_store
from tests.meant import meant
from tests.planref import drawn_plan
from tests.test_numbering import any_numbers, shuffled
from tests.test_reading import ASKINGS, RichKinds, chance_program
from tests.test_streams import any_order

ACROSS = (
    "(for d (table dept) (one (record a (field d name) b (for e (table emp) (where (equal (field e who) (field d name))"
    " (one (record c (field e age) d (for f (table emp) (where (equal (field f age) (field e age)) (one (field f who)))))))))))",
    "(for e (use (use keep (fn x (field x boss))) (table emp)) (one (use both (field e who))))",
    "(for d (table dept) (one (use (use each (fn e (record all (use dup (field d name)) n (field e age)"
    " same (equal (field e who) (field d name))))) emps)))",
    "(let f (fn x (for e (table emp) (where (equal (field e who) x) (one (field e age)))))"
    " (for d (table dept) (one (if (empty (use f (field d name))) (one (count (table emp))) (use f (field d name))))))",
    "(for e (table emp) (where (less (count (for f (table emp) (where (equal (field f who) (field e who)) (one 1)))) 2)"
    " (one (record a (none) b (one (one (field e who))) c (total (for f (table emp) (one (field f age))))))))",
)


class AnswersTest(unittest.TestCase):
    def check(self, chance, program, store):
        before, follow = store.copied(), [store.following(table) for table, _ in HEADS]
        value = meaning(program, store)
        self.assertEqual(value, meant(program, store)[0])
        questions = questions_of(program)
        self.assertEqual(len(questions), ask_count(program.kind))
        answers = answers_of(questions, store)
        sizes = sizes_of(store)
        planned = tuple(run_question(question, plans_for(question, sizes), store) for question in questions)
        drawn = tuple(run_question(question, [drawn_plan(chance, member) for member in question], store) for question in questions)
        self.assertEqual(planned, answers)
        self.assertEqual(drawn, answers)
        self.check_together(chance, program.kind, answers, value)
        self.assertEqual(store, before)
        self.assertEqual([store.following(table) for table, _ in HEADS], follow)

    def check_together(self, chance, kind, answers, value):
        """All ways to put answers together tell the value."""
        mixed = shuffled(chance, answers)
        for numbering in (even_numbers(kind, mixed), any_numbers(chance, kind, answers)):
            for ids in (with_keys(mixed), numbered_answers(kind, mixed, numbering)):
                self.assertIsNone(ids_fault(kind, ids))
                self.assertEqual(stitch(kind, listed(ids)), value)
                stitcher, told = Stitcher(kind), []
                for place, row in any_order(chance, kind, ids):
                    told += stitcher.push(place, row)
                self.assertEqual(told + list(stitcher.finish()), value)
        self.assertEqual(list(stream(kind, answers)), value)
        wholes = [own for _, own, _ in with_keys(answers)[0]]
        self.assertEqual([thing_at(kind, with_keys(mixed), 0, own) for own in wholes], value)

    def test_by_chance(self):
        chance = random.Random(260)
        with RichKinds():
            for _ in range(250):
                self.check(chance, chance_program(chance), any_store(chance))

    def test_chosen_programs(self):
        chance = random.Random(261)
        for text in ACROSS:
            program = Program(HEADS, DEFINITIONS, term_of(text))
            for _ in range(15):
                self.check(chance, program, any_store(chance))
                self.check(chance, without_definitions(program), any_store(chance))
        for _, text in ASKINGS:
            self.check(chance, Program(HEADS, DEFINITIONS, term_of(text)), any_store(chance))

    def test_every_good_plan_of_each_member(self):
        chance = random.Random(262)
        count = 0
        for text in ACROSS:
            program = Program(HEADS, DEFINITIONS, term_of(text))
            store = any_store(chance)
            for question in questions_of(program):
                sizes = plans_for(question, sizes_of(store))
                due = run_question(question, sizes, store)
                for at, member in enumerate(question):
                    if len(member.tables) > 4 or len(member.tests) > 3:
                        continue
                    for plan in all_plans(member):
                        count += 1
                        self.assertEqual(run_question(question, sizes[:at] + (plan,) + sizes[at + 1:], store), due)
        self.assertGreater(count, 60)

    def test_questions_that_were_written_and_read(self):
        chance = random.Random(263)
        for text in ACROSS:
            program = Program(HEADS, DEFINITIONS, term_of(text))
            store = any_store(chance)
            questions = tuple(question_of(question_text(question)) for question in questions_of(program))
            self.assertEqual(stitch(program.kind, with_keys(answers_of(questions, store))), meaning(program, store))

    def test_pushes_of_a_programs_answers_are_never_refused(self):
        chance = random.Random(264)
        with RichKinds():
            for _ in range(150):
                program = chance_program(chance)
                answers = answers_of(questions_of(program), any_store(chance))
                stitcher = Stitcher(program.kind)
                for place, row in merged_rows(answers):
                    self.assertIsNone(refusal(stitcher.push, place, row))


if __name__ == "__main__":
    unittest.main()
