"""[10.1] and [10.2]."""

import random
import unittest

from listasks.compiling import questions_of
from listasks.flatrun import run_plain
from listasks.forms import cell_of_form
from listasks.members import FlatQuestion, Member
from listasks.programs import Program
from listasks.questions import question_fault, question_of, question_text
from listasks.shredding import shred
from listasks.stores import check_heads
from listasks.texts import term_of
from listasks.words import read_form
from tests.helping import nested, refusal
from tests.making import HEADS, any_store
from tests.making_trees import KINDS, any_canonical, any_rows
from tests.test_reading import chance_program

TEST = ("equal", ("column", 1, "dept"), ("column", 0, "name"))
EXAMPLE = FlatQuestion(("*", "b"), (
    Member(("dept", "emp"), (TEST,), (("row", 0),), (("row", 1),), (("column", 1, "who"),)),))
EXAMPLE_TEXT = ("(question (place () b) (member (tables dept emp) (tests (equal (column 1 dept) (column 0 name)))"
                " (outer (row 0)) (own (row 1)) (cells (column 1 who))))")
MEMBER = "(member (tables t) (tests (column 0 a)) (outer (part 0)) (own (row 0)) (cells 1 \"x\" (truth yes)))"


def cell_of(text):
    return cell_of_form(read_form(text))


class TextsTest(unittest.TestCase):
    def test_texts(self):
        whole = Member(("t",), (("column", 0, "a"),), (("part", 0),), (("row", 0),),
                       (("number", 1), ("text", "x"), ("truth", True)))
        cases = (
            (EXAMPLE, EXAMPLE_TEXT),
            (FlatQuestion((), ()), "(question (place))"),
            (FlatQuestion(("*", "a", "b", "*"), ()), "(question (place () a b ()))"),
            (FlatQuestion((), (Member((), (), (), (), ()),)), "(question (place) (member (tables) (tests) (outer) (own) (cells)))"),
            (FlatQuestion((), (whole, whole)), f"(question (place) {MEMBER} {MEMBER})"),
            (FlatQuestion((), (Member((), (("truth", False),), (("part", 12),), (), (("count", ("none",)),)),)),
             "(question (place) (member (tables) (tests (truth no)) (outer (part 12)) (own) (cells (count (none)))))"),
        )
        for question, text in cases:
            self.assertEqual(question_text(question), text)
            self.assertEqual(question_of(text), question)

    def test_bad_texts(self):
        for text, place in (("", 0), ("(question (place)", 17), ("(question  (place))", 10), (EXAMPLE_TEXT + " ", len(EXAMPLE_TEXT)),
                            ("(question (place (text)))", 22), ("(question (place) (member 01))", 27), ("Q", 0),
                            ("(question (text a))", 15)):
            self.assertEqual(refusal(question_of, text), ("BadText", place))

    def test_bad_forms(self):
        good = f"(question (place () a) {MEMBER} {MEMBER})"
        self.assertEqual(question_text(question_of(good)), good)
        changes = (
            ("question (", "quest ("), ("(place () a)", "(places () a)"), ("(place () a)", "place"), ("(place () a)", "()"),
            ("(place () a)", "(place 1 a)"), ("(place () a)", "(place (()) a)"), ("(place () a)", "(place () \"a\")"),
            ("(place () a) ", ""), ("(member", "(members"), ("(tables t)", "(table t)"), ("(tables t)", "(tables 1)"),
            ("(tables t)", "(tables (t))"), ("(tables t)", "(tables \"t\")"), ("(tables t) ", ""), ("(tables t)", "tables"),
            ("(tables t)", "t"), ("(tests (column 0 a))", "(test (column 0 a))"), ("(tests (column 0 a)) ", ""),
            ("(column 0 a)", "(column -1 a)"), ("(column 0 a)", "(column 0)"), ("(column 0 a)", "(list (none))"),
            ("(column 0 a)", "a"), ("(column 0 a)", "(leaf (tests) 1)"), ("(column 0 a)", "(record)"),
            ("(outer (part 0))", "(outer (parts 0))"), ("(outer (part 0))", "(outer (part -1))"), ("(outer (part 0))", "(outer part)"),
            ("(outer (part 0))", "(outer (part 0 1))"), ("(outer (part 0))", "(outer (part))"), ("(outer (part 0))", "(outer (part a))"),
            ("(outer (part 0)) ", ""), ("(outer (part 0))", "(inner (part 0))"), ("(own (row 0))", "(own (row -2))"),
            ("(own (row 0))", "(own 0)"), ("(own (row 0))", "(own ())"), ("(own (row 0)) ", ""), ("(own (row 0))", "(own (column 0 a))"),
            ("(outer (part 0)) (own (row 0))", "(own (row 0)) (outer (part 0))"), ("(cells 1", "(cells a"), ("(cells 1", "(cells (none)"),
            ("(cells 1", "(cell 1"), ("(cells 1", "(cells (plus 1)"), (" (cells 1 \"x\" (truth yes))", ""),
            ("(truth yes))", "(truth yes)) (cells)"), (MEMBER, "member"), (MEMBER, "5"), (MEMBER, "()"), (MEMBER, "(member)"),
        )
        for old, new in changes:
            for times in (1, 2):
                text = good.replace(old, new, times)
                with self.subTest(text=text):
                    self.assertNotEqual(text, good)
                    self.assertEqual(refusal(question_of, text), ("BadForm", "question"))
        for text in ("question", "5", "()", "(question)", "(question place)", "\"question\"", "((question) (place))",
                     f"(question {MEMBER})", f"(question (place) (place) {MEMBER})", MEMBER):
            self.assertEqual(refusal(question_of, text), ("BadForm", "question"))

    def test_kinds_and_the_order_of_tests_are_not_asked(self):
        for text in (
            "(question (place a b) (member (tables) (tests 1 (truth yes) 1) (outer (row 9)) (own (row 9)) (cells (not 5))))",
            "(question (place) (member (tables) (tests) (outer) (own) (cells (count (leaf (tests \"a\") (list (none)))))))",
        ):
            self.assertEqual(question_text(question_of(text)), text)

    def test_there_and_back_by_chance(self):
        chance = random.Random(101)
        for _ in range(200):
            kind = ("list", chance.choice(KINDS))
            for question in shred(any_canonical(chance, kind[1], deep=5), kind):
                text = question_text(question)
                self.assertEqual(question_of(text), question)
                self.assertEqual(question_text(question_of(text)), text)


HEADS_TWO = check_heads([("dept", [("name", "text")]), ("emp", [("age", "int"), ("boss", "truth"), ("who", "text")])])
AGE, BOSS, NAME = ("column", 0, "age"), ("column", 0, "boss"), ("column", 1, "name")
BOTH, ROWS = ("emp", "dept"), (("row", 0), ("row", 1))
PART, OTHER = ("part", 0), ("part", 1)
LEAFED = ("leaf", (), ("record", ()))


def member(tables=BOTH, tests=(), outer=(), own=ROWS, cells=(AGE,)):
    return Member(tables, tests, outer, own, cells)


# Members of one question, and its first fault.
FAULTS = (
    ((), None),
    ((member(),), None),
    ((member(tests=(BOSS, ("equal", NAME, ("text", "a")))),), None),
    ((member((), (), (), (), ()),), None),
    ((member(outer=ROWS, own=()),), None),
    ((member(outer=(PART,) + ROWS[:1], own=(OTHER,) + ROWS[1:]),), None),
    ((member(("nil", "dept")),), (0, "table")),
    ((member(("emp", "nil")),), (0, "table")),
    ((member(("nil",), (BOSS, BOSS), (), ROWS, ()),), (0, "table")),
    ((member(own=ROWS[:1]),), (0, "rows")),
    ((member(own=ROWS[::-1]),), (0, "rows")),
    ((member(own=ROWS + (("row", 2),)),), (0, "rows")),
    ((member(outer=ROWS[:1]),), (0, "rows")),
    ((member(tests=(AGE,), own=()),), (0, "rows")),
    ((member(tests=(AGE,)),), (0, "test")),
    ((member(tests=(NAME,)),), (0, "test")),
    ((member(tests=(("column", 2, "boss"),)),), (0, "test")),
    ((member(tests=(BOSS, ("less", ("text", "a"), AGE))),), (0, "test")),
    ((member(tests=(("empty", ("for", "nil", LEAFED)),)),), (0, "test")),
    ((member(tests=(("number", 1), BOSS, BOSS)),), (0, "test")),
    ((member(tests=(BOSS, BOSS)),), (0, "tests")),
    ((member(tests=(("not", BOSS), BOSS)),), (0, "tests")),
    ((member(tests=(("and", BOSS, BOSS),)),), (0, "tests")),
    ((member(tests=(("truth", True),)),), (0, "tests")),
    ((member(tests=(("truth", False),)),), (0, "tests")),
    ((member(tests=(BOSS, ("truth", False))),), (0, "tests")),
    ((member(tests=(BOSS, BOSS), cells=(("column", 0, "name"),)),), (0, "tests")),
    ((member(cells=(("column", 0, "name"),)),), (0, "cell")),
    ((member(cells=(AGE, ("not", AGE))),), (0, "cell")),
    ((member(cells=(("total", ("leaf", (), BOSS)),)),), (0, "cell")),
    ((member(own=(PART,) + ROWS), member(own=(OTHER,) + ROWS)), None),
    ((member(own=(PART,) + ROWS), member(own=(OTHER,) + ROWS, cells=(NAME,))), (1, "kinds")),
    ((member(own=(PART,) + ROWS), member(own=(OTHER,) + ROWS, cells=(AGE, AGE))), (1, "kinds")),
    ((member(own=(PART,) + ROWS), member(own=(OTHER,) + ROWS, cells=())), (1, "kinds")),
    ((member(own=(PART,) + ROWS), member(own=(OTHER,) + ROWS, cells=(("number", 3),))), None),
    ((member(own=(PART,) + ROWS), member(cells=(NAME,)), member(("nil",))), (1, "kinds")),
    ((member(), member()), (1, "twice")),
    ((member(), member(tests=(BOSS,))), (1, "twice")),
    ((member(own=(PART,) + ROWS), member(own=ROWS[:1] + (OTHER,) + ROWS[1:])), (1, "twice")),
    ((member(own=(PART,) + ROWS), member(own=(PART,) + ROWS)), (1, "twice")),
    ((member(own=(PART,) + ROWS), member(own=(OTHER,) + ROWS), member(own=(PART,) + ROWS)), (2, "twice")),
    ((member(own=(PART,) + ROWS), member(own=(OTHER,) + ROWS), member(own=(OTHER,) + ROWS)), (2, "twice")),
    # other lengths, of one of both keys or of both
    ((member(), member(own=ROWS + (PART,))), None),
    ((member(outer=ROWS[:1], own=ROWS[1:]), member()), None),
    ((member(outer=(PART,)), member()), None),
    ((member(outer=(PART,)), member(outer=(OTHER,), own=ROWS + (PART,))), None),
    ((member(own=(OTHER,) + ROWS), member(own=ROWS[:1] + (PART,) + ROWS[1:])), (1, "twice")),
    ((member(own=ROWS[:1] + (PART,) + ROWS[1:]), member(own=(OTHER,) + ROWS)), (1, "twice")),
    ((member(outer=(PART,), own=ROWS), member(outer=(OTHER,), own=ROWS)), None),
    ((member(outer=(PART,) + ROWS[:1], own=ROWS[1:]), member(outer=(OTHER,), own=ROWS)), None),
    ((member(outer=(PART,), own=ROWS), member(outer=(PART,), own=ROWS)), (1, "twice")),
    ((member(("emp",), (), (), ROWS[:1] + (PART,)), member(("emp",), (), (), (OTHER,) + ROWS[:1])), (1, "twice")),
    ((member(("emp",), (), (), ROWS[:1] + (PART,)), member((), (), (), (OTHER, OTHER), (("number", 1),))), None),
    ((member(("emp",), (), (), ROWS[:1] + (PART,)), member((), (), (), (OTHER, PART), (("number", 1),))), (1, "twice")),
    # member by member
    ((member(cells=(("not", AGE),)), member(("nil",))), (0, "cell")),
    ((member(), member(("nil",), cells=()), member()), (1, "table")),
)


class FaultsTest(unittest.TestCase):
    def test_faults(self):
        for members, fault in FAULTS:
            with self.subTest(members=[vars(one) for one in members]):
                question = FlatQuestion((), members)
                self.assertEqual(question_fault(question, HEADS_TWO), fault)
                self.assertEqual(question_fault(FlatQuestion(("*", "a"), members), HEADS_TWO), fault)
                if fault is None:
                    self.check_rows(question)

    def check_rows(self, question):
        chance = random.Random(102)
        for _ in range(5):
            rows = run_plain(question, any_rows(chance))
            self.assertEqual(len(rows), len({row[:2] for row in rows}))

    def test_questions_of_programs_have_none(self):
        chance = random.Random(103)
        for _ in range(150):
            for question in questions_of(chance_program(chance)):
                self.assertIsNone(question_fault(question, HEADS))
                rows = run_plain(question, any_store(chance))
                self.assertEqual(len(rows), len({row[:2] for row in rows}))

    def test_many_members(self):
        asking = term_of("(for e (table emp) (one (field e age)))")
        asking = nested(11, lambda part: ("use", ("name", "dup"), part), asking)
        program = Program(HEADS, [("dup", term_of("(fn l (join l l))"))], asking)
        question, = questions_of(program)
        self.assertEqual(len(question.members), 2048)
        self.assertIsNone(question_fault(question, HEADS))
        self.assertEqual(question_fault(FlatQuestion((), question.members + question.members[:1]), HEADS), (2048, "twice"))


if __name__ == "__main__":
    unittest.main()
