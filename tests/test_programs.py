"""[3.7], [3.8], the example [3.9], and the texts of programs."""

import random
import unittest

from listasks.meaning import meaning
from listasks.programs import Program, with_asking, without_definitions
from listasks.texts import kind_text, program_parts, program_text, term_of
from tests.helping import listed, nested, refusal
from tests.making import DEFINITIONS, HEADS, any_asking, any_store

X = ("name", "x")
ONE = ("number", 1)
DUP = ("fn", "x", ("join", ("one", X), ("one", X)))
ASKING = ("for", "y", ("use", ("name", "dup"), ONE), ("use", ("name", "dup"), ("text", "t")))


def refused(definitions, asking=("none",), heads=HEADS):
    return refusal(Program, heads, definitions, asking)


def asked(text, definitions=()):
    return Program(HEADS, definitions, term_of(text))


class ProgramTest(unittest.TestCase):
    def test_attributes(self):
        program = Program(HEADS, (("dup", DUP), ("one", ("use", ("name", "dup"), ONE))), ASKING)
        self.assertEqual(program.heads, HEADS)
        self.assertEqual(program.definitions, (("dup", DUP), ("one", ("use", ("name", "dup"), ONE))))
        self.assertEqual(program.asking, ASKING)
        self.assertEqual([kind_text(kind) for kind in program.kinds],
                         ["(function (any 0) (list (any 0)))", "(list int)"])
        self.assertEqual(program.kind, ("list", "text"))
        bare = Program(HEADS, (), ("none",))
        self.assertEqual((bare.definitions, bare.kinds, bare.kind), ((), (), ("list", "int")))

    def test_lists_are_taken_and_neither_changed_nor_kept(self):
        heads, definitions, asking = listed(HEADS), listed((("dup", DUP),)), listed(ASKING)
        program = Program(heads, definitions, asking)
        self.assertEqual((heads, definitions, asking), (listed(HEADS), listed((("dup", DUP),)), listed(ASKING)))
        for passed in (heads, definitions, asking):
            passed.clear()
        self.assertEqual(program, Program(HEADS, (("dup", DUP),), ASKING))
        self.assertIsInstance(program.definitions, tuple)

    def test_heads_come_first(self):
        self.assertEqual(refusal(Program, (), None, None), ("BadHeads", -1, "many"))
        turned = Program(HEADS[::-1], (), ("none",))
        self.assertEqual(turned.heads, HEADS)

    def test_many(self):
        eight = tuple((name, ONE) for name in "abcdefgh")
        self.assertEqual(len(Program(HEADS, eight, ("none",)).definitions), 8)
        for definitions in (eight + (("i", ONE),), None, "ab", 5, {}, (None,), ("ab",), (("f",),), (("f", ONE, ONE),),
                            (("F", ("bad",)), ("f",))):
            self.assertEqual(refused(definitions, ("bad",)), ("BadProgram", "many"), definitions)

    def test_name_and_double(self):
        for name in ("", "F", "1f", "v1", "v0", "v123", "abcdefghi", 1, None):
            self.assertEqual(refused(((name, ("bad",)),), ("bad",)), ("BadProgram", "name"), name)
        for name in ("v", "v1a", "va1", "w1", "u"):
            self.assertEqual(Program(HEADS, ((name, ONE),), ("none",)).definitions, ((name, ONE),))
        self.assertEqual(refused((("f", ONE), ("f", ("bad",)))), ("BadProgram", "double"))
        # couple by couple: what is wrong with an earlier one comes first
        self.assertEqual(refused((("f", ONE), ("f", ONE), ("v1", ONE))), ("BadProgram", "double"))
        self.assertEqual(refused((("f", ONE), ("v1", ONE), ("f", ONE))), ("BadProgram", "name"))

    def test_terms_are_checked_in_order(self):
        bad, worse = ("number", True), ("one", ("name", "X"))
        self.assertEqual(refused((("f", ONE), ("g", bad)), worse), ("BadTerm", (), "value"))
        self.assertEqual(refused((("f", worse), ("g", bad)), bad), ("BadTerm", (0,), "name"))
        self.assertEqual(refused((("f", ("fn", "f", X)),), worse), ("BadTerm", (0,), "name"))
        deep = nested(20, lambda term: ("one", term), ONE)
        self.assertEqual(refused((), deep), ("BadTerm", (0,) * 20, "depth"))

    def test_bound(self):
        for term in (("fn", "g", ONE), ("let", "g", ONE, ONE), ("for", "g", ("none",), ("none",)),
                     ("one", ("record", (("a", ("fn", "f", ONE)),)))):
            self.assertEqual(refused((("f", term), ("g", X))), ("BadProgram", "bound"))
            self.assertEqual(refused((("f", ONE), ("g", term))), ("BadProgram", "bound"))
            self.assertEqual(refused((("f", ONE), ("g", X)), term), ("BadProgram", "bound"))
        # used as a label or a table it is not bound
        program = Program(HEADS, (("dept", ONE),), ("one", ("record", (("dept", ("name", "dept")),))))
        self.assertEqual(program.kind, ("list", ("record", (("dept", "int"),))))

    def test_kinds_are_found_in_order(self):
        self.assertEqual(refused((("f", ("name", "g")), ("g", ONE))), ("Unknown", 0, (), "g"))
        self.assertEqual(refused((("f", ("name", "f")),)), ("Unknown", 0, (), "f"))
        self.assertEqual(refused((("f", ONE), ("g", ("not", ("name", "f"))))), ("Misfit", 1, ()))
        self.assertEqual(refused((("f", ONE), ("g", ("fn", "r", ("field", ("name", "r"), "a"))))), ("Unclear", 1, (0,)))
        self.assertEqual(refused((("f", ONE), ("g", ONE)), ("one", ("name", "h"))), ("Unknown", 2, (0,), "h"))
        self.assertEqual(refused((("f", ONE), ("g", ONE)), ("table", "none")), ("Unknown", 2, (), "none"))
        self.assertEqual(refused((("f", ONE),), ("join", ("one", ONE), ("name", "f"))), ("Misfit", 1, ()))
        self.assertEqual(refused((("f", ("not", ONE)), ("g", ("name", "h"))), X), ("Misfit", 0, ()))

    def test_the_asking_may_be_unclear(self):
        program = asked("(for r (none) (one (field r a)))")
        self.assertEqual(program.kind, ("list", "int"))
        program = asked("(for r (none) (where (equal (field r b) (field r a)) (one r)))")
        self.assertEqual(kind_text(program.kind), "(list (record a int b int))")

    def test_no_answer(self):
        for text in ("1", "(record)", "(fn x (one x))", "(one (fn x x))", "(one (record a (fn x 1)))", "(count (none))"):
            self.assertEqual(refused((), term_of(text)), ("NoAnswer",), text)
        self.assertEqual(kind_text(asked("(one (record))").kind), "(list (record))")
        self.assertEqual(kind_text(asked("(one (none))").kind), "(list (list int))")

    def test_equality(self):
        one = Program(HEADS, (("f", ONE),), ("one", ("name", "f")))
        self.assertTrue(one == Program(listed(HEADS), listed((("f", ONE),)), ["one", ["name", "f"]]))
        self.assertFalse(one == Program(HEADS, (("f", ("number", 2)),), ("one", ("name", "f"))))
        self.assertFalse(one == Program(HEADS, (("f", ONE),), ("none",)))
        self.assertFalse(one == Program(HEADS[:1], (("f", ONE),), ("one", ("name", "f"))))
        self.assertFalse(one == Program(HEADS, (), ("one", ONE)))
        for thing in (None, 1, (), one.asking, "f"):
            self.assertIs(one == thing, False)


class ChangedProgramsTest(unittest.TestCase):
    def test_with_asking(self):
        program = Program(HEADS, (("dup", DUP),), ("none",))
        other = with_asking(program, listed(ASKING))
        self.assertEqual(other, Program(HEADS, (("dup", DUP),), ASKING))
        self.assertEqual(program.asking, ("none",))
        self.assertEqual(refusal(with_asking, program, ONE), ("NoAnswer",))
        self.assertEqual(refusal(with_asking, program, ("fn", "dup", ONE)), ("BadProgram", "bound"))

    def test_without_definitions(self):
        definitions = (("dup", DUP), ("two", ("use", ("name", "dup"), ("one", ONE))))
        program = Program(HEADS, definitions, ("join", ("name", "two"), ("use", ("name", "dup"), ("none",))))
        whole = ("use", DUP, ("one", ONE))
        self.assertEqual(without_definitions(program),
                         Program(HEADS, (), ("join", whole, ("use", DUP, ("none",)))))
        self.assertEqual(without_definitions(program).kind, program.kind)
        self.assertEqual(without_definitions(without_definitions(program)), without_definitions(program))

    def test_too_large_without_definitions(self):
        row = nested(6, lambda term: ("join", term, term), ("none",))
        definitions = (("f", row),) + tuple(
            (later, nested(6, lambda term: ("join", term, term), ("name", earlier)))
            for earlier, later in zip("fghijkl", "ghijklm"))
        program = Program(HEADS, definitions, ("name", "m"))
        # eight definitions, each with the one before it 64 times; found without making all that
        self.assertEqual(refusal(without_definitions, program), ("BadTerm", (0,) * 20, "depth"))
        program = Program(HEADS, definitions[:2], ("name", "g"))
        self.assertEqual(refusal(without_definitions, program), ("BadTerm", (), "size"))

    def test_programs_by_chance(self):
        chance = random.Random(38)
        for _ in range(150):
            program = Program(HEADS, DEFINITIONS, any_asking(chance))
            whole = without_definitions(program)
            store = any_store(chance)
            self.assertEqual((whole.kind, whole.definitions), (program.kind, ()))
            self.assertEqual(meaning(whole, store), meaning(program, store))


class TextsTest(unittest.TestCase):
    def test_there_and_back(self):
        program = Program(HEADS, (("dup", DUP),), ASKING)
        text = program_text(program)
        self.assertEqual(text, "(program (tables dept (columns name text) emp (columns age int boss truth who text)) "
                               '(defined dup (fn x (join (one x) (one x)))) (for y (use dup 1) (use dup "t")))')
        self.assertEqual(Program(*program_parts(text)), program)
        chance = random.Random(39)
        for _ in range(150):
            program = Program(HEADS, DEFINITIONS, any_asking(chance))
            self.assertEqual(Program(*program_parts(program_text(program))), program)


class ExampleTest(unittest.TestCase):
    def test_example(self):
        program = Program(HEADS, (("dup", DUP),), ASKING)
        self.assertEqual([kind_text(kind) for kind in program.kinds], ["(function (any 0) (list (any 0)))"])
        self.assertEqual(program.kind, ("list", "text"))
        self.assertEqual(refused((), ("let", "dup", DUP, ASKING)), ("Misfit", 0, (1, 1)))
        self.assertEqual(refused((("f", term_of("(fn x (use x x))")),)), ("Misfit", 0, (0,)))
        self.assertEqual(refused((("f", ONE), ("g", term_of("(fn r (field r a))")))), ("Unclear", 1, (0,)))


if __name__ == "__main__":
    unittest.main()
