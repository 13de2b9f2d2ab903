"""[2.4] to [2.8]."""

import random
import unittest

from listasks.stores import Store
from listasks.terms import check_term
from listasks.texts import (
    heads_form,
    heads_of_form,
    kind_form,
    kind_of,
    kind_of_form,
    kind_text,
    program_form,
    program_parts,
    program_text,
    store_form,
    store_of,
    store_of_form,
    store_text,
    term_form,
    term_of,
    term_of_form,
    term_text,
)
from listasks.words import read_form
from tests.helping import nested, refusal
from tests.making import any_term

HEADS = (("dept", (("name", "text"),)), ("emp", (("age", "int"), ("boss", "truth"), ("who", "text"))))
HEADS_TEXT = "(tables dept (columns name text) emp (columns age int boss truth who text))"
X, Y = ("name", "x"), ("name", "y")
STORE_TEXT = (f'(store {HEADS_TEXT} (rows 4 1 (cells "a") 3 (cells "")) '
              '(rows 2 1 (cells -5 yes "ann")))')
PROGRAM_TEXT = f"(program {HEADS_TEXT} (defined f (fn x x) g 1) (one (use f g)))"


class Asked:
    """What program_text asks: an object with three attributes."""

    def __init__(self, heads, definitions, asking):
        self.heads = heads
        self.definitions = definitions
        self.asking = asking


class KindsTest(unittest.TestCase):
    PAIRS = (
        ("int", "int"), ("text", "text"), ("truth", "truth"), (("any", 0), "(any 0)"), (("any", 12), "(any 12)"),
        (("list", "int"), "(list int)"), (("record", ()), "(record)"),
        (("record", (("a", "int"), ("text", ("list", "text")))), "(record a int text (list text))"),
        (("function", ("any", 0), ("list", ("any", 0))), "(function (any 0) (list (any 0)))"),
        (("list", ("record", (("a", "int"),))), "(list (record a int))"),
        (("function", ("record", (("a", "int"),)), "int"), "(function (record a int) int)"),
    )

    def test_there_and_back(self):
        for kind, text in self.PAIRS:
            self.assertEqual(kind_text(kind), text)
            self.assertEqual(kind_of(text), kind)
            self.assertEqual(kind_of_form(kind_form(kind)), kind)
            self.assertEqual(kind_form(kind), read_form(text))

    def test_other_shapes(self):
        bad = ("bool", "1", '"int"', "()", "(list)", "(list int int)", "(list bool)", "(list ())", "(record a)",
               "(record a int b)", "(record 1 int)", '(record "a" int)', "(record () int)", "(record a bool)",
               "(record (a int))", "(function int)", "(function int int int)", "(any)", "(any x)", "(any 0 0)",
               "(any (1))", "(int)", "((list) int)", "(table a)", "(list (record a (list list)))", "x")
        for text in bad:
            self.assertEqual(refusal(kind_of, text), ("BadForm", "kind"), text)
            self.assertEqual(refusal(kind_of_form, read_form(text)), ("BadForm", "kind"), text)

    def test_right_shapes_of_bad_kinds(self):
        for text in ("(any -1)", "(record b int a int)", "(record a int a int)",
                     "(record a int b int c int d int e int f int)", "(list " * 12 + "int" + ")" * 12):
            self.assertEqual(refusal(kind_of, text), ("BadKind",), text)
        # shapes are asked through and through ahead of any check
        self.assertEqual(refusal(kind_of, "(function (any -1) (list))"), ("BadForm", "kind"))

    def test_bad_text_comes_first(self):
        self.assertEqual(refusal(kind_of, "(list  int)"), ("BadText", 6))

    def test_deep_kinds_are_written(self):
        deep = nested(2000, lambda kind: ("record", (("a", kind),)), "int")
        self.assertEqual(kind_text(deep), "(record a " * 2000 + "int" + ")" * 2000)
        self.assertEqual(refusal(kind_of_form, kind_form(deep)), ("BadKind",))


class TermsTest(unittest.TestCase):
    PAIRS = (
        (("number", -4), "-4"), (("text", "a b"), '"a b"'), (("truth", True), "(truth yes)"),
        (("truth", False), "(truth no)"), (X, "x"), (("name", "text"), "text"), (("none",), "(none)"),
        (("table", "emp"), "(table emp)"), (("fn", "x", Y), "(fn x y)"), (("field", X, "a"), "(field x a)"),
        (("as", X, ("list", "int")), "(as x (list int))"),
        (("as", X, ("list", ("record", (("a", "int"),)))), "(as x (list (record a int)))"), (("one", X), "(one x)"), (("not", X), "(not x)"),
        (("empty", X), "(empty x)"), (("count", X), "(count x)"), (("total", X), "(total x)"),
        (("let", "x", Y, X), "(let x y x)"), (("for", "x", Y, X), "(for x y x)"),
        (("use", X, Y), "(use x y)"), (("join", X, Y), "(join x y)"), (("where", X, Y), "(where x y)"),
        (("plus", X, Y), "(plus x y)"), (("minus", X, Y), "(minus x y)"), (("times", X, Y), "(times x y)"),
        (("equal", X, Y), "(equal x y)"), (("less", X, Y), "(less x y)"), (("and", X, Y), "(and x y)"),
        (("or", X, Y), "(or x y)"), (("if", X, Y, ("number", 0)), "(if x y 0)"), (("record", ()), "(record)"),
        (("record", (("a", X), ("text", ("text", "text")))), '(record a x text "text")'),
        (("fn", "text", ("name", "text")), "(fn text text)"),
        (("for", "x", ("table", "emp"), ("one", ("field", X, "who"))), "(for x (table emp) (one (field x who)))"),
    )

    def test_there_and_back(self):
        for term, text in self.PAIRS:
            self.assertEqual(term_text(term), text)
            self.assertEqual(term_of(text), term)
            self.assertEqual(term_form(term), read_form(text))
            self.assertEqual(term_of_form(term_form(term)), term)

    def test_there_and_back_by_chance(self):
        chance = random.Random(25)
        for _ in range(500):
            term = any_term(chance, 5)
            self.assertEqual(term_of_form(term_form(term)), check_term(term))
            self.assertEqual(term_of(term_text(term)), term)

    def test_other_shapes(self):
        bad = ("()", "(number 1)", "(name x)", "(truth)", "(truth maybe)", "(truth yes no)", "(truth 1)", "(none 1)",
               "(table)", "(table 1)", '(table "emp")', "(table (emp))", "(fn x)", "(fn x y z)", "(fn 1 x)",
               '(fn "x" x)', "(fn (x) x)", "(field x)", "(field x 1)", '(field x "a")', "(field a b c)", "(as x)",
               "(as x bool)", "(as x (list))", "(as x 1)", "(one)", "(one x y)", "(let x y)", "(let 1 x y)",
               "(for x y z w)", "(use x)", "(plus x y z)", "(if x y)", "(record a)", "(record 1 x)", '(record "a" x)',
               "(record (a x))", "(x y)", "(one ())", "(one (list int))", "(1 2)", "((one) x)", "(column 0 a)")
        for text in bad:
            self.assertEqual(refusal(term_of, text), ("BadForm", "term"), text)
            self.assertEqual(refusal(term_of, f"(join x {text})"), ("BadForm", "term"), text)

    def test_right_shapes_of_bad_terms(self):
        self.assertEqual(refusal(term_of, "(one (as x (any 0)))"), ("BadTerm", (0,), "kind"))
        self.assertEqual(refusal(term_of, "(as x (any -1))"), ("BadTerm", (), "kind"))
        self.assertEqual(refusal(term_of, "(as x (record b int a int))"), ("BadTerm", (), "kind"))
        self.assertEqual(refusal(term_of, "(record b x a x)"), ("BadTerm", (), "labels"))
        self.assertEqual(refusal(term_of, "(record a x b x c x d x e x f x)"), ("BadTerm", (), "labels"))
        self.assertEqual(refusal(term_of, "(one " * 20 + "x" + ")" * 20), ("BadTerm", (0,) * 20, "depth"))
        self.assertEqual(refusal(term_of_form, ("one", 10 ** 30)), ("BadTerm", (0,), "value"))
        row = nested(7, lambda form: ("join", form, form), "x")
        self.assertEqual(refusal(term_of_form, row), ("BadTerm", (), "size"))
        # shapes are asked through and through ahead of any check
        self.assertEqual(refusal(term_of, "(join (record b x a x) (one))"), ("BadForm", "term"))
        self.assertEqual(refusal(term_of, "(join (record b x a x) (as x (list)))"), ("BadForm", "term"))

    def test_bad_text_comes_first(self):
        self.assertEqual(refusal(term_of, "(one  ())"), ("BadText", 5))
        self.assertEqual(refusal(term_of, '(text "a")'), ("BadText", 5))

    def test_large_terms_are_written(self):
        deep = nested(200, lambda term: ("fn", "x", ("one", term)), X)
        self.assertEqual(term_text(deep), "(fn x (one " * 200 + "x" + "))" * 200)
        self.assertEqual(refusal(term_of_form, term_form(deep)), ("BadTerm", (0,) * 20, "depth"))


class HeadsTest(unittest.TestCase):
    def test_there_and_back(self):
        self.assertEqual(heads_form(HEADS), read_form(HEADS_TEXT))
        self.assertEqual(heads_of_form(read_form(HEADS_TEXT)), HEADS)
        named = (("text", (("text", "text"),)),)
        self.assertEqual(heads_of_form(heads_form(named)), named)

    def test_heads_come_back_ascending(self):
        text = "(tables emp (columns who text age int boss truth) dept (columns name text))"
        self.assertEqual(heads_of_form(read_form(text)), HEADS)

    def test_other_shapes(self):
        bad = ("tables", "()", "(heads)", "(tables dept)", "(tables dept (columns) emp)", "(tables 1 (columns a int))",
               '(tables "t" (columns a int))', "(tables t (column a int))", "(tables t (columns a))",
               "(tables t (columns a bool))", "(tables t (columns a (list int)))", "(tables t (columns 1 int))",
               '(tables t (columns "a" int))', "(tables t columns)", "(tables t ())", "(tables (columns a int) t)")
        for text in bad:
            self.assertEqual(refusal(heads_of_form, read_form(text)), ("BadForm", "heads"), text)

    def test_right_shapes_of_bad_heads(self):
        cases = (
            ("(tables)", (-1, "many")), ("(tables t (columns))", (0, "columns")),
            ("(tables t (columns a int a text))", (0, "column")),
            ("(tables t (columns a int) t (columns a int))", (1, "double")),
            ("(tables " + " ".join(f"{letter} (columns a int)" for letter in "abcdef") + ")", (-1, "many")),
            ("(tables t (columns a int b int c int d int e int f int))", (0, "columns")),
        )
        for text, told in cases:
            self.assertEqual(refusal(heads_of_form, read_form(text)), ("BadHeads", *told), text)
        form = read_form("(tables t (columns) u (columns a bool))")
        self.assertEqual(refusal(heads_of_form, form), ("BadForm", "heads"))


class StoresTest(unittest.TestCase):
    def setUp(self):
        self.store = Store(HEADS)
        for name in ("a", "b", ""):
            self.store.put("dept", (name,))
        self.store.take("dept", 2)
        self.store.put("emp", (-5, True, "ann"))

    def test_truths(self):
        heads = (("t", (("a", "truth"), ("b", "text"))),)
        text = '(store (tables t (columns a truth b text)) (rows 3 1 (cells yes "no") 2 (cells no "yes")))'
        store = store_of(text)
        self.assertEqual(store.rows_of("t"), ((1, (True, "no")), (2, (False, "yes"))))
        self.assertEqual((store.heads, store_text(store)), (heads, text))

    def test_there_and_back(self):
        self.assertEqual(store_text(self.store), STORE_TEXT)
        self.assertEqual(store_form(self.store), read_form(STORE_TEXT))
        again = store_of(STORE_TEXT)
        self.assertEqual(again, self.store)
        self.assertEqual((again.following("dept"), again.following("emp")), (4, 2))
        self.store.take("dept", 3)
        again = store_of(store_text(self.store))
        self.assertEqual((again, again.following("dept")), (self.store, 4))
        self.assertEqual(store_of(store_text(Store(HEADS))), Store(HEADS))

    def test_heads_that_do_not_ascend(self):
        text = ('(store (tables emp (columns who text age int boss truth) dept (columns name text)) '
                '(rows 4 1 (cells "a") 3 (cells "")) (rows 2 1 (cells -5 yes "ann")))')
        self.assertEqual(store_of(text), self.store)

    def test_other_shapes(self):
        heads = "(tables t (columns a int))"
        bad = ("store", "()", "(store)", "(stores (tables))", f"(store {heads} 1)", f"(store {heads} ())",
               f"(store {heads} (row 1))", f"(store {heads} (rows))", f"(store {heads} (rows x))",
               f'(store {heads} (rows "1"))', f"(store {heads} (rows 2 1))", f"(store {heads} (rows 2 x (cells 1)))",
               f"(store {heads} (rows 2 1 (cell 1)))", f"(store {heads} (rows 2 1 (cells maybe)))",
               f"(store {heads} (rows 2 1 (cells (1))))", f"(store {heads} (rows 2 1 (cells (truth yes))))",
               f"(store {heads} (rows 2 1 cells))", "(store (tables t) (rows 1))", "(store (rows 1))",
               "(store (tables t (columns a bool)) (rows 1))", f"(store {heads} (rows (2) 1 (cells 1)))")
        for text in bad:
            self.assertEqual(refusal(store_of, text), ("BadForm", "store"), text)
            self.assertEqual(refusal(store_of_form, read_form(text)), ("BadForm", "store"), text)

    def test_right_shapes_of_bad_stores(self):
        heads = "(tables t (columns a int))"
        self.assertEqual(refusal(store_of, "(store (tables))"), ("BadHeads", -1, "many"))
        self.assertEqual(refusal(store_of, "(store (tables t (columns)) (rows 0))"), ("BadHeads", 0, "columns"))
        for lots in ("", " (rows 1) (rows 1)", " (rows 0)", " (rows -1)", " (rows 2 2 (cells 1))",
                     " (rows 3 2 (cells 1) 1 (cells 1))", " (rows 2 1 (cells))", " (rows 2 1 (cells yes))",
                     ' (rows 2 1 (cells "a"))', " (rows 2 1 (cells 1 2))", " (rows 2 0 (cells 1))"):
            self.assertEqual(refusal(store_of, f"(store {heads}{lots})"), ("BadLots",), lots)
        # shapes are asked through and through ahead of any check
        self.assertEqual(refusal(store_of, "(store (tables) (rows x))"), ("BadForm", "store"))
        self.assertEqual(refusal(store_of, "(store (tables) (rows -1) (rows 1 1 (cells no maybe)))"),
                         ("BadForm", "store"))
        self.assertEqual(refusal(store_of, "(store  )"), ("BadText", 7))


class ProgramsTest(unittest.TestCase):
    PARTS = (HEADS, (("f", ("fn", "x", X)), ("g", ("number", 1))), ("one", ("use", ("name", "f"), ("name", "g"))))

    def test_there_and_back(self):
        program = Asked(*self.PARTS)
        self.assertEqual(program_text(program), PROGRAM_TEXT)
        self.assertEqual(program_form(program), read_form(PROGRAM_TEXT))
        self.assertEqual(program_parts(PROGRAM_TEXT), self.PARTS)
        bare = Asked(HEADS, (), ("none",))
        self.assertEqual(program_text(bare), f"(program {HEADS_TEXT} (defined) (none))")
        self.assertEqual(program_parts(program_text(bare)), (HEADS, (), ("none",)))

    def test_what_a_program_would_refuse_is_no_matter_here(self):
        text = f"(program {HEADS_TEXT} (defined v1 x v1 x a x b x c x d x e x f x g x) 1)"
        heads, definitions, asking = program_parts(text)
        self.assertEqual(heads, HEADS)
        self.assertEqual(definitions, tuple((name, X) for name in ("v1", "v1", *"abcdefg")))
        self.assertEqual(asking, ("number", 1))

    def test_heads_come_back_ascending(self):
        text = "(program (tables b (columns z int y int) a (columns x int)) (defined) 1)"
        self.assertEqual(program_parts(text)[0], (("a", (("x", "int"),)), ("b", (("y", "int"), ("z", "int")))))

    def test_other_shapes(self):
        heads = "(tables t (columns a int))"
        bad = ("program", "()", f"(program {heads} (defined))", f"(program {heads} (defined) 1 2)",
               f"(program {heads} () 1)", f"(program {heads} defined 1)", f"(program {heads} (defined f) 1)",
               f"(program {heads} (defined 1 x) 1)", f'(program {heads} (defined "f" x) 1)',
               f"(program {heads} (defined f ()) 1)", f"(program {heads} (defined f (as x (list))) 1)",
               f"(program {heads} (defined) (one))", "(program (tables t) (defined) 1)",
               f"(programs {heads} (defined) 1)", f"(program {heads} 1 (defined))")
        for text in bad:
            self.assertEqual(refusal(program_parts, text), ("BadForm", "program"), text)

    def test_right_shapes_of_bad_programs(self):
        bad = "(record b x a x)"
        value = "(one (as x (any 0)))"
        heads = "(tables t (columns a int))"
        self.assertEqual(refusal(program_parts, f"(program (tables) (defined f {bad}) {value})"),
                         ("BadHeads", -1, "many"))
        self.assertEqual(refusal(program_parts, f"(program {heads} (defined f 1 g {bad}) {value})"),
                         ("BadTerm", (), "labels"))
        self.assertEqual(refusal(program_parts, f"(program {heads} (defined f {value} g {bad}) 1)"),
                         ("BadTerm", (0,), "kind"))
        self.assertEqual(refusal(program_parts, f"(program {heads} (defined f 1) {value})"), ("BadTerm", (0,), "kind"))
        self.assertEqual(refusal(program_parts, f"(program (tables) (defined f {bad}) ())"), ("BadForm", "program"))
        self.assertEqual(refusal(program_parts, "(program )"), ("BadText", 9))


if __name__ == "__main__":
    unittest.main()
