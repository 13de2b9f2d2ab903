"""[8.1] to [8.8]."""

import random
import unittest

import tests.making
from listasks.cells import FALSE, TRUE, cell_text, thing_text, tree_text
from listasks.chains import judge_chain, led_by, on_steps, settled_program
from listasks.errors import BadChain, BadTerm, Misfit, NoAnswer, Unclear
from listasks.forms import thing_of_form
from listasks.keys import told_values, value_of
from listasks.kinds import ask_count
from listasks.lifting import lifted_cell, lifted_thing
from listasks.meaning import meaning
from listasks.programs import Program, with_asking, without_definitions
from listasks.reading import if_thing, moved_thing, read, read_term, use_function
from listasks.rules import RULES
from listasks.terms import substituted
from listasks.texts import term_of
from listasks.trees import leaves_of, rebuilt, tree_fault
from listasks.words import read_form
from listasks.worths import thing_fits
from tests.helping import nested
from tests.making import DEFINITIONS, HEADS, ROW_KINDS, any_asking, any_store, least_term, term_of_kind
from tests.making_trees import TABLES, any_choice, any_rows, any_thing
from tests.meant import value_of_term
from tests.treesref import canonical

FUNCTION = ("function", "int", "int")
LISTER = ("function", "text", ("list", "int"))
# More kinds for terms by chance: functions, also within records, lists and functions.
RICH_KINDS = tests.making.SMALL_KINDS + 2 * (
    FUNCTION,
    LISTER,
    ("list", FUNCTION),
    ("function", "int", ("function", "text", "truth")),
    ("function", "int", ("list", FUNCTION)),
    ("record", (("a", FUNCTION), ("b", ("list", LISTER)))),
    ("list", ("record", (("a", LISTER), ("b", "int")))),
)


def thing_of(text):
    return thing_of_form(read_form(text))


def read_at(depth, text, names=()):
    """What the term is read as at the depth; names are couples (name, text of a thing there) or triples."""
    triples = [name if len(name) == 3 else (name[0], thing_of(name[1]), depth) for name in names]
    return read_term(HEADS, term_of(text), triples, depth)


class RichKinds:
    """Makes terms by chance have parts of rich kinds, too."""

    def __enter__(self):
        self.kept = tests.making.SMALL_KINDS
        tests.making.SMALL_KINDS = RICH_KINDS

    def __exit__(self, kind, value, trace):
        tests.making.SMALL_KINDS = self.kept


# Terms, and what they are read as at depth 2 under x (a cell), r (a record), l (a list).
NAMES = (
    ("x", "(column 0 age)"),
    ("c", "(column 1 boss)"),
    ("r", "(record a (column 1 who) b (list (leaf (tests) 7)))"),
    ("l", "(list (for emp (leaf (tests (column 2 boss)) (column 2 age))))"),
)
LEAF = "(leaf (tests) 7)"
READ = (
    ("5", "5"),
    ('"a b"', '"a b"'),
    ("(truth yes)", "(truth yes)"),
    ("(truth no)", "(truth no)"),
    ("x", "(column 0 age)"),
    ("r", "(record a (column 1 who) b (list (leaf (tests) 7)))"),
    ("(as x int)", "(column 0 age)"),
    ("(as l (list int))", "(list (for emp (leaf (tests (column 2 boss)) (column 2 age))))"),
    ("(plus x 1)", "(plus (column 0 age) 1)"),
    ("(minus x 1)", "(minus (column 0 age) 1)"),
    ("(times 2 x)", "(times 2 (column 0 age))"),
    ("(equal 1 1)", "(equal 1 1)"),
    ("(less x 1)", "(less (column 0 age) 1)"),
    ("(and c c)", "(and (column 1 boss) (column 1 boss))"),
    ("(and (less x 1) c)", "(and (less (column 0 age) 1) (column 1 boss))"),
    ("(and c (less x 1))", "(and (column 1 boss) (less (column 0 age) 1))"),
    ("(and c (truth yes))", "(column 1 boss)"),
    ("(and (truth no) c)", "(truth no)"),
    ("(or c (less x 1))", "(or (column 1 boss) (less (column 0 age) 1))"),
    ("(or (truth no) c)", "(column 1 boss)"),
    ("(or c (truth yes))", "(truth yes)"),
    ("(not (truth yes))", "(truth no)"),
    ("(not (not c))", "(not (not (column 1 boss)))"),
    ("(let y (plus x 1) (times y y))", "(times (plus (column 0 age) 1) (plus (column 0 age) 1))"),
    ("(let x 3 x)", "3"),
    ("(let x (plus x 1) (plus x 2))", "(plus (plus (column 0 age) 1) 2)"),
    ("(record a x b (record) c l)",
     "(record a (column 0 age) b (record) c (list (for emp (leaf (tests (column 2 boss)) (column 2 age)))))"),
    ("(field r a)", "(column 1 who)"),
    ("(field r b)", "(list (leaf (tests) 7))"),
    ("(field (record a 1 b 2) b)", "2"),
    ("(none)", "(list (none))"),
    ("(one x)", "(list (leaf (tests) (column 0 age)))"),
    ("(one (one x))", "(list (leaf (tests) (list (leaf (tests) (column 0 age)))))"),
    ("(join (one 1) (one 2))", "(list (parts (leaf (tests) 1) (leaf (tests) 2)))"),
    ("(join (none) (one 2))", "(list (leaf (tests) 2))"),
    ("(join (join (one 1) (one 2)) (join (one 3) (none)))", "(list (parts (leaf (tests) 1) (leaf (tests) 2) (leaf (tests) 3)))"),
    ("(table dept)", "(list (for dept (leaf (tests) (record name (column 2 name)))))"),
    ("(table emp)",
     "(list (for emp (leaf (tests) (record age (column 2 age) boss (column 2 boss) who (column 2 who)))))"),
    ("(for y l (one (plus y x)))", "(list (for emp (leaf (tests (column 2 boss)) (plus (column 2 age) (column 0 age)))))"),
    ("(for y (table dept) l)", "(list (for dept (for emp (leaf (tests (column 3 boss)) (column 3 age)))))"),
    ("(for y (table dept) (for z (table dept) (one (equal (field y name) (field z name)))))",
     "(list (for dept (for dept (leaf (tests) (equal (column 2 name) (column 3 name))))))"),
    ("(for y (none) (one 1))", "(list (none))"),
    ("(for y (one 3) (join (one y) (one y)))", "(list (parts (leaf (tests) 3) (leaf (tests) 3)))"),
    ("(for y (join l (one 3)) (where (less y 4) (one y)))",
     "(list (parts (for emp (leaf (tests (column 2 boss) (less (column 2 age) 4)) (column 2 age)))"
     " (leaf (tests (less 3 4)) 3)))"),
    ("(for x (table dept) (one (field x name)))", "(list (for dept (leaf (tests) (column 2 name))))"),
    ("(where c (one 1))", "(list (leaf (tests (column 1 boss)) 1))"),
    ("(where (truth yes) (one 1))", "(list (leaf (tests) 1))"),
    ("(where (truth no) (one 1))", "(list (none))"),
    ("(where (and (less x 1) c) (one 1))", "(list (leaf (tests (column 1 boss) (less (column 0 age) 1)) 1))"),
    ("(where c (where c l))", "(list (for emp (leaf (tests (column 1 boss) (column 2 boss)) (column 2 age))))"),
    ("(where (empty l) (table dept))",
     "(list (for dept (leaf (tests (empty (for emp (leaf (tests (column 3 boss)) (record))))) (record name (column 2 name)))))"),
    ("(if c 1 2)", "(if (column 1 boss) 1 2)"),
    ("(if c 1 1)", "(if (column 1 boss) 1 1)"),
    ("(if (truth yes) 1 2)", "1"),
    ("(if (truth no) 1 2)", "2"),
    ("(if c r (record a \"b\" b (none)))",
     "(record a (if (column 1 boss) (column 1 who) \"b\") b (list (leaf (tests (column 1 boss)) 7)))"),
    ("(if c (one 1) (one 2))", "(list (parts (leaf (tests (column 1 boss)) 1) (leaf (tests (not (column 1 boss))) 2)))"),
    ("(if c (one 1) (none))", "(list (leaf (tests (column 1 boss)) 1))"),
    ("(if (not c) (one 1) (one 2))",
     "(list (parts (leaf (tests (not (column 1 boss))) 1) (leaf (tests (not (not (column 1 boss)))) 2)))"),
    ("(if (truth no) (one 1) (one 2))", "(list (leaf (tests) 2))"),
    ("(empty l)", "(empty (for emp (leaf (tests (column 2 boss)) (record))))"),
    ("(count (join l (one 3)))", "(count (parts (for emp (leaf (tests (column 2 boss)) (record))) (leaf (tests) (record))))"),
    ("(count (none))", "(count (none))"),
    ("(total (join l (one 3)))", "(total (parts (for emp (leaf (tests (column 2 boss)) (column 2 age))) (leaf (tests) 3)))"),
    ("(use (fn y (plus y x)) 3)", "(plus 3 (column 0 age))"),
    ("(use (fn x (plus x x)) (plus x 1))", "(plus (plus (column 0 age) 1) (plus (column 0 age) 1))"),
    ("(use (use (fn f (fn y (use f (use f y)))) (fn z (plus z x))) 1)", "(plus (plus 1 (column 0 age)) (column 0 age))"),
    ("(use (if c (fn y (plus y 1)) (fn z z)) x)", "(if (column 1 boss) (plus (column 0 age) 1) (column 0 age))"),
)


class TermsTest(unittest.TestCase):
    def test_each_word(self):
        for text, due in READ:
            with self.subTest(text=text):
                self.assertEqual(read_at(2, text, NAMES), thing_of(due))

    def test_names_are_moved(self):
        names = [("l", thing_of("(list (for emp (leaf (tests) (plus (column 0 age) (column 1 age)))))"), 1)]
        for depth in (1, 2, 10):
            due = thing_of(f"(list (for emp (leaf (tests) (plus (column 0 age) (column {depth} age)))))")
            self.assertEqual(read_at(depth, "l", names), due)
        names = [("c", thing_of("(count (for emp (leaf (tests (column 7 boss) (column 8 boss)) (record))))"), 8)]
        self.assertEqual(read_at(10, "c", names),
                         thing_of("(count (for emp (leaf (tests (column 10 boss) (column 7 boss)) (record))))"))
        names = [("r", thing_of("(record a (list (for emp (leaf (tests) (column 0 age)))) b 3)"), 0)]
        self.assertEqual(read_at(4, "r", names), thing_of("(record a (list (for emp (leaf (tests) (column 4 age)))) b 3)"))

    def test_the_earlier_of_two_names_counts(self):
        self.assertEqual(read_at(0, "x", [("x", "1"), ("y", "3"), ("x", "2")]), ("number", 1))
        self.assertEqual(read_at(0, "(plus x y)", [("y", "5"), ("x", "2"), ("y", "6")]), thing_of("(plus 2 5)"))

    def test_lists_are_left_alone(self):
        names = [["x", ("number", 1), 0]]
        heads = [["dept", [["name", "text"]]]]
        function = read_term(heads, term_of("(fn y (for z (table dept) (one (plus x y))))"), names, 0)
        self.assertEqual((names, heads), ([["x", ("number", 1), 0]], [["dept", [["name", "text"]]]]))
        names[0][1] = ("number", 2)
        names.clear()
        heads[0][1][0][0] = "other"
        self.assertEqual(use_function(function, ("number", 5), 0), thing_of("(list (for dept (leaf (tests) (plus 1 5))))"))
        heads[0][1].clear()
        heads.clear()
        self.assertEqual(use_function(function, ("number", 5), 0), thing_of("(list (for dept (leaf (tests) (plus 1 5))))"))

    def test_heads_of_lists_may_be_spoilt(self):
        def spoil_column(heads):
            heads[0][1][0][0] = "other"

        def spoil_kind(heads):
            heads[0][1][0][1] = "int"

        def spoil_columns(heads):
            heads[0][1][0] = ["other", "text"]

        def spoil_table(heads):
            heads[0][0] = "other"

        for spoil in (spoil_column, spoil_kind, spoil_columns, spoil_table):
            heads = [["dept", [["name", "text"]]]]
            function = read_term(heads, ("fn", "y", ("table", "dept")), [], 0)
            either = if_thing(("column", 0, "boss"), function, read_term(heads, ("fn", "y", ("none",)), [], 1), 1)
            spoil(heads)
            row = "(record name (column {} name))"
            self.assertEqual(use_function(function, ("number", 1), 0), thing_of(f"(list (for dept (leaf (tests) {row.format(0)})))"))
            self.assertEqual(use_function(either, ("number", 1), 1),
                             thing_of(f"(list (for dept (leaf (tests (column 0 boss)) {row.format(1)})))"))

    def test_the_example(self):
        program = Program([("emp", [("dept", "text"), ("who", "text")])], [],
                          term_of('(for x (table emp) (where (equal (field x dept) "a") (one (field x who))))'))
        self.assertEqual(read(program), ("for", "emp", ("leaf", (("equal", ("column", 0, "dept"), ("text", "a")),),
                                                        ("column", 0, "who"))))

    def test_both_arms_are_read(self):
        names = [("f", read_at(0, "(fn x (plus x 1))"), 0), ("g", read_at(0, "(fn x x)"), 0)]
        self.assertEqual(read_at(0, "(if (less 1 2) (use f 3) (use g 4))", names), thing_of("(if (less 1 2) (plus 3 1) 4)"))


class FunctionsTest(unittest.TestCase):
    def test_a_function_is_no_tuple(self):
        function = read_at(1, "(fn y (plus y x))", [("x", "(column 0 age)")])
        self.assertNotIsInstance(function, tuple)
        self.assertEqual(use_function(function, ("number", 3), 1), thing_of("(plus 3 (column 0 age))"))
        self.assertEqual(use_function(function, ("column", 4, "age"), 5), thing_of("(plus (column 4 age) (column 0 age))"))

    def test_the_body_is_read_at_the_depth_of_the_argument(self):
        function = read_at(1, "(fn y (for z (table emp) (one (plus (field z age) (plus y (total l))))))",
                           [("l", "(list (for emp (leaf (tests) (column 1 age))))")])
        for depth in (1, 2, 7):
            told = use_function(function, ("column", depth - 1, "age"), depth)
            self.assertEqual(told, thing_of(
                f"(list (for emp (leaf (tests) (plus (column {depth} age) (plus (column {depth - 1} age)"
                f" (total (for emp (leaf (tests) (column {depth + 1} age)))))))))"))

    def test_functions_in_records_and_leaves(self):
        text = "(record a (fn y (plus y x)) b (join (one (fn y y)) (for d (table emp) (one (fn y (plus y (field d age)))))))"
        record = read_at(1, text, [("x", "(column 0 age)")])
        for by in (0, 3):
            moved = moved_thing(record, 1, by)
            depth = 1 + by
            (_, function), (_, (_, tree)) = moved[1]
            self.assertEqual(use_function(function, ("number", 1), depth), thing_of("(plus 1 (column 0 age))"))
            (_, _, _, first), (items, tables, _, second) = leaves_of(tree, depth)
            self.assertEqual((items, tables), ((("part", 1), ("row", depth)), ("emp",)))
            self.assertEqual(use_function(first, ("number", 1), depth), ("number", 1))
            self.assertEqual(use_function(second, ("number", 1), depth + 1), thing_of(f"(plus 1 (column {depth} age))"))

    def test_trees_with_functions_are_canonical(self):
        for text in ("(one (fn y y))", "(for d (table dept) (where (equal (field d name) \"a\") (one (record a (fn y y) b 1))))",
                     "(join (one (one (fn y y))) (if (less 1 x) (one (one (fn y y))) (none)))"):
            _, tree = read_at(1, text, [("x", "(column 0 age)")])
            self.assertIsNone(tree_fault(tree))
            self.assertEqual(rebuilt(tree), tree)

    def test_a_moved_function(self):
        names = [
            ("a", thing_of("(column 0 age)"), 1),
            ("b", thing_of("(plus (column 0 age) (plus (column 1 age) (column 2 age)))"), 3),
            ("l", thing_of("(total (for emp (leaf (tests (column 1 boss)) (plus (column 2 age) (column 0 age)))))"), 2),
        ]
        function = read_at(3, "(fn y (plus y (plus a (plus b l))))", names)
        for depth, rows in ((0, (5, 6, 7)), (1, (0, 6, 7)), (2, (0, 1, 7)), (3, (0, 1, 2))):
            zero, one, two = [f"(column {row} age)" for row in rows]
            told = use_function(moved_thing(function, depth, 5), ("number", 9), 8)
            self.assertEqual(told, thing_of(
                f"(plus 9 (plus {zero} (plus (plus {zero} (plus {one} {two}))"
                f" (total (for emp (leaf (tests (column {rows[1]} boss)) (plus (column 8 age) {zero})))))))"))
        self.assertEqual(use_function(function, ("number", 9), 3), use_function(moved_thing(function, 1, 0), ("number", 9), 3))

    def test_functions_joined_by_if(self):
        test = thing_of("(empty (for emp (leaf (tests (column 0 boss)) (record))))")
        one = read_at(1, "(fn y (one (plus y x)))", [("x", "(column 0 age)")])
        other = read_at(1, "(fn y (none))")
        joined = if_thing(test, one, other, 1)
        self.assertNotIsInstance(joined, tuple)
        for depth in (1, 4):
            due = if_thing(lifted_cell(test, 1, depth - 1), thing_of("(list (leaf (tests) (plus 3 (column 0 age))))"),
                           thing_of("(list (none))"), depth)
            self.assertEqual(use_function(joined, ("number", 3), depth), due)
            self.assertEqual(use_function(moved_thing(joined, 1, 2), ("number", 3), depth + 2),
                             lifted_thing(due, depth, 2) if depth > 1 else use_function(joined, ("number", 3), 3))
        moved = moved_thing(joined, 0, 2)
        up = lifted_cell(test, 0, 2)
        self.assertEqual(use_function(moved, ("number", 3), 4), if_thing(
            lifted_cell(up, 3, 1), thing_of("(list (leaf (tests) (plus 3 (column 2 age))))"), thing_of("(list (none))"), 4))
        twice = if_thing(("not", ("column", 0, "boss")), joined, one, 1)
        self.assertEqual(use_function(twice, ("number", 3), 1), if_thing(
            ("not", ("column", 0, "boss")), use_function(joined, ("number", 3), 1), use_function(one, ("number", 3), 1), 1))

    def test_truths_join_functions_as_they_join_their_uses(self):
        one, other = read_at(0, "(fn y (plus y 1))"), read_at(0, "(fn y (plus y 2))")
        self.assertEqual(use_function(if_thing(TRUE, one, other, 0), ("number", 3), 0), thing_of("(plus 3 1)"))
        self.assertEqual(use_function(if_thing(FALSE, one, other, 0), ("number", 3), 0), thing_of("(plus 3 2)"))

    def test_functions_that_give_functions(self):
        pair = read_at(0, "(fn f (fn g (fn y (use g (use f y)))))")
        plus, twice = read_at(0, "(fn y (plus y 1))"), read_at(0, "(fn y (times y 2))")
        both = use_function(use_function(pair, plus, 0), twice, 0)
        self.assertEqual(use_function(both, ("column", 2, "age"), 3), thing_of("(times (plus (column 2 age) 1) 2)"))
        self.assertEqual(use_function(moved_thing(both, 0, 5), ("number", 4), 5), thing_of("(times (plus 4 1) 2)"))

    def test_names_are_those_of_the_place_where_it_was_read(self):
        text = "(let x 1 (let f (fn y (plus x y)) (let x 2 (use f x))))"
        self.assertEqual(read_at(0, text), thing_of("(plus 1 2)"))
        text = "(let f (fn x (fn y (plus x y))) (let g (use f 1) (let h (use f 2) (plus (use g 5) (use h 6)))))"
        self.assertEqual(read_at(0, text), thing_of("(plus (plus 1 5) (plus 2 6))"))


class IfThingTest(unittest.TestCase):
    def test_if_thing(self):
        test = ("column", 0, "boss")
        cases = (
            ("1", "2", "(if (column 0 boss) 1 2)"),
            ("(record)", "(record)", "(record)"),
            ("(record a 1 b (record c 2))", "(record a 3 b (record c 4))",
             "(record a (if (column 0 boss) 1 3) b (record c (if (column 0 boss) 2 4)))"),
            ("(list (none))", "(list (none))", "(list (none))"),
            ("(list (for emp (leaf (tests) 1)))", "(list (parts (leaf (tests) 2) (leaf (tests (column 0 age)) 3)))",
             "(list (parts (for emp (leaf (tests (column 0 boss)) 1)) (leaf (tests (not (column 0 boss))) 2)"
             " (leaf (tests (column 0 age) (not (column 0 boss))) 3)))"),
        )
        for one, other, due in cases:
            self.assertEqual(if_thing(test, thing_of(one), thing_of(other), 1), thing_of(due))
            self.assertEqual(if_thing(TRUE, thing_of(one), thing_of(other), 1), thing_of(one))
            self.assertEqual(if_thing(FALSE, thing_of(one), thing_of(other), 1), thing_of(other))

    def test_the_test_is_lifted(self):
        test = thing_of("(empty (for emp (leaf (tests (column 2 boss)) (record))))")
        tree = "(for dept (leaf (tests{}) 1))"
        told = if_thing(test, thing_of("(list (none))"), thing_of("(list " + tree.format("") + ")"), 2)
        self.assertEqual(told, thing_of(
            "(list " + tree.format(" (not (empty (for emp (leaf (tests (column 3 boss)) (record)))))") + ")"))


class ProgramsTest(unittest.TestCase):
    def test_definitions_at_several_kinds(self):
        definitions = [("dup", term_of("(fn x (join (one x) (one x)))")),
                       ("both", term_of("(fn x (use dup (use dup x)))"))]
        program = Program(HEADS, definitions, term_of(
            "(for e (table emp) (one (record a (use dup (field e who)) b (use both (field e age)))))"))
        self.assertEqual(tree_text(read(program)), (
            "(for emp (leaf (tests) (record a (list (parts (leaf (tests) (column 0 who)) (leaf (tests) (column 0 who))))"
            " b (list (parts (leaf (tests) (list (parts (leaf (tests) (column 0 age)) (leaf (tests) (column 0 age)))))"
            " (leaf (tests) (list (parts (leaf (tests) (column 0 age)) (leaf (tests) (column 0 age))))))))))"))
        self.assertEqual(read(without_definitions(program)), read(program))

    def test_definitions_are_moved_to_where_they_stand(self):
        definitions = [("emps", term_of("(table emp)")), ("ages", term_of("(for e emps (one (field e age)))"))]
        program = Program(HEADS, definitions, term_of("(for d (table dept) (for e emps (one (total ages))))"))
        self.assertEqual(tree_text(read(program)),
                         "(for dept (for emp (leaf (tests) (total (for emp (leaf (tests) (column 2 age)))))))")

    def test_a_program_without_rows(self):
        self.assertEqual(read(Program(HEADS, [], term_of("(as (none) (list text))"))), ("none",))

    def test_values_by_chance(self):
        chance = random.Random(87)
        with RichKinds():
            for _ in range(150):
                program = chance_program(chance)
                store = any_store(chance)
                tree = read(program)
                self.assertIsNone(tree_fault(tree))
                self.assertTrue(thing_fits(("list", tree), program.kind, HEADS, ()))
                before = store.copied()
                self.assertEqual(told_values(tree, (), store), meaning(program, store))
                self.assertEqual(store, before)

    def test_terms_under_names_say_the_meaning(self):
        chance = random.Random(88)
        kinds = ("int", "truth", ROW_KINDS["emp"], ("list", "int"), ("list", ("list", "text")))
        many = 0
        with RichKinds():
            while many < 150:
                store = any_rows(chance)
                tables = tuple(chance.choice(TABLES) for _ in range(chance.randrange(4)))
                choice = any_choice(chance, tables, store)
                if choice is None:
                    continue
                many += 1
                names, bound, values = [], {}, {}
                for name in "xyz":
                    depth = chance.randrange(len(tables) + 1)
                    bound[name] = chance.choice(kinds)
                    thing = canonical(any_thing(chance, bound[name], tables[:depth], 3))
                    names.append((name, thing, depth))
                    values[name] = value_of(thing, choice[:depth], store)
                kind = chance.choice(kinds)
                term = term_of_kind(chance, kind, bound, 5, False)
                thing = read_term(HEADS, term, names, len(tables))
                self.assertTrue(thing_fits(thing, kind, HEADS, tables))
                self.assertEqual(value_of(thing, choice, store), value_of_term(term, values, {}, store, []))

    def test_reading_goes_with_depth(self):
        chance = random.Random(89)
        kinds = ("int", "truth", ("list", "int"), ("list", ROW_KINDS["dept"]), FUNCTION, LISTER, ("list", FUNCTION),
                 ("record", (("a", LISTER), ("b", ("list", "text")))))
        with RichKinds():
            for _ in range(200):
                rows = tuple(chance.choice(TABLES) for _ in range(3))
                names, bound = [], {}
                for name in "xyz":
                    depth = chance.randrange(4)
                    bound[name] = chance.choice(kinds)
                    names.append((name, any_readable(chance, bound[name], rows[:depth]), depth))
                kind = chance.choice(kinds)
                term = term_of_kind(chance, kind, bound, 4, False)
                by = chance.randrange(1, 9)
                near, far = read_term(HEADS, term, names, 3), read_term(HEADS, term, names, 3 + by)
                self.assertEqual(shown(chance, far, kind, 3 + by), shown(chance, moved_thing(near, 3, by), kind, 3 + by))
                # as if all names had been read elsewhere
                start = chance.randrange(4)
                away = [(name, moved_thing(thing, start, by), at + by) if at > start else (name, thing, at)
                        for name, thing, at in names]
                self.assertEqual(shown(chance, moved_thing(near, start, by), kind, 3 + by),
                                 shown(chance, read_term(HEADS, term, away, 3 + by), kind, 3 + by))

    def test_reading_goes_with_putting_in(self):
        chance = random.Random(90)
        for _ in range(200):
            kind, other = chance.choice(tests.making.SMALL_KINDS), chance.choice(tests.making.SMALL_KINDS)
            part = term_of_kind(chance, other, {}, 3, False)
            body = term_of_kind(chance, kind, {"x": other}, 4, False)
            due = thing_text(read_term(HEADS, substituted(body, "x", part), (), 2))
            self.assertEqual(thing_text(read_term(HEADS, ("let", "x", part, body), (), 2)), due)
            self.assertEqual(thing_text(read_term(HEADS, ("use", ("fn", "x", body), part), (), 2)), due)
            names = [("x", read_term(HEADS, part, (), 2), 2)]
            self.assertEqual(thing_text(read_term(HEADS, body, names, 2)), due)


def chance_program(chance, deep=6):
    while True:
        try:
            return Program(HEADS, DEFINITIONS, any_asking(chance, chance.randrange(3, deep)))
        except (Misfit, Unclear, NoAnswer):
            continue


def any_readable(chance, kind, tables):
    """A thing at the depth of the tables, read from a term if functions are in it."""
    if "function" in str(kind):
        names = [("w", ("column", row, "age"), row + 1) for row, table in enumerate(tables) if table == "emp"][-1:]
        return read_term(HEADS, term_of_kind(chance, kind, {name: "int" for name, *_ in names}, 3, False), names, len(tables))
    return canonical(any_thing(chance, kind, tables, 3))


def shown(chance, thing, kind, depth):
    """The thing with uses in the place of functions, as a text."""
    if isinstance(kind, str):
        return cell_text(thing)
    if kind[0] == "record":
        return [label + shown(chance, part, due, depth) for (label, part), (_, due) in zip(thing[1], kind[1])].__repr__()
    if kind[0] == "list":
        return repr([(items, tables, [cell_text(test) for test in tests], shown(chance, part, kind[1], depth + len(tables)))
                     for items, tables, tests, part in leaves_of(thing[1], depth)])
    given = {"int": ("column", 0, "age"), "text": ("text", "t")}[kind[1]]
    return shown(chance, use_function(thing, given, depth + 2), kind[2], depth + 2)


# For each rule an asking to which it applies somewhere.
ASKINGS = (
    ("use", "(use (fn x (join (one x) (one x))) 1)"),
    ("use", "(for e (table emp) (use (fn x (for d (table dept) (one (plus x (count (table dept)))))) (field e age)))"),
    ("let", "(let x (table emp) (join x (for d (table dept) x)))"),
    ("field", "(for e (table emp) (one (field (record a (field e age) b e) a)))"),
    ("unfold", "(for d (table dept) (use dup emps))"),
    ("as", "(for e (table emp) (as (one (field e age)) (list int)))"),
    ("where", "(for e (table emp) (where (field e boss) (one e)))"),
    ("truth", "(where (and (truth yes) (less 1 2)) (one 1))"),
    ("truth", "(where (or (truth yes) (less 1 2)) (one 1))"),
    ("truth", "(where (not (truth no)) (one 1))"),
    ("truth", "(for e (table emp) (where (and (field e boss) (truth no)) (one 1)))"),
    ("if", "(if (truth no) (one 1) (one 2))"),
    ("if", "(one (if (truth yes) 1 2))"),
    ("fieldif", "(for e (table emp) (one (field (if (field e boss) (record a 1) (record a 2)) a)))"),
    ("fieldif", "(for e (table emp) (field (if (field e boss) (record a (table emp)) (record a (one e))) a))"),
    ("useif", "(for e (table emp) (use (if (field e boss) (fn y (one y)) (fn y (none))) 1))"),
    ("fornone", "(for x (none) (one 1))"),
    ("forone", "(for x (one 1) (for d (table dept) (one x)))"),
    ("forjoin", "(for x (join (one 1) (one 2)) (for d (table dept) (one x)))"),
    ("forfor", "(for x (for y (table emp) (where (field y boss) (one y))) (for z (table dept) (one (record a x b z))))"),
    ("forif", "(for e (table emp) (for x (if (field e boss) (table dept) (none)) (one x)))"),
    ("tonone", "(for e (table emp) (as (for d (table dept) (none)) (list int)))"),
    ("itself", "(for d (table dept) (for e (table emp) (one e)))"),
    ("joinnone", "(join (none) (one 1))"),
    ("joinnone", "(join (one 1) (none))"),
    ("joinjoin", "(join (join (one 1) (one 3)) (one 2))"),
    ("bare", "(for d (table dept) (where (empty (table emp)) (one (count (join (one d) (table dept))))))"),
    ("bare", "(one (count (for e (table emp) (where (field e boss) (one (field e who))))))"),
    ("through", "(use (fn x (use dup x)) 1)"),
    ("ifrecord", "(for e (table emp) (one (if (field e boss) (record a 1 b (one 2)) (record a 3 b (none)))))"),
    ("iffn", "(for e (table emp) (use (if (field e boss) (fn y (one y)) (fn z (join (one z) (one z)))) (field e age)))"),
    ("forwhere", "(for e (table emp) (for x (where (field e boss) (table dept)) (one x)))"),
    ("wherefor", "(for e (table emp) (where (field e boss) (for d (table dept) (one (field e who)))))"),
    ("wherejoin", "(for e (table emp) (where (field e boss) (join (one e) (table emp))))"),
    ("wherewhere", "(for e (table emp) (where (field e boss) (where (less 1 (field e age)) (table dept))))"),
    ("turn", "(for e (table emp) (where (and (field e boss) (less 1 (field e age))) (table dept)))"),
    ("twice", "(for e (table emp) (where (and (field e boss) (field e boss)) (table dept)))"),
    ("apart", "(for e (table emp) (join (where (field e boss) (one 1)) (where (not (field e boss)) (one 2))))"),
)


class RewritingTest(unittest.TestCase):
    def test_each_rule_leaves_the_tree(self):
        self.assertEqual({rule for rule, _ in ASKINGS}, set(RULES))
        for rule, text in ASKINGS:
            with self.subTest(rule=rule, text=text):
                program = Program(HEADS, DEFINITIONS, term_of(text))
                tree = read(program)
                steps = [step for step in on_steps(program) if step[1] == rule and judge_chain(program, [step]) is None]
                self.assertNotEqual(steps, [])
                for step in steps:
                    self.assertEqual(read(led_by(program, [step])), tree)
                self.assertEqual(read(settled_program(program)), tree)
                self.assertEqual(read(without_definitions(program)), tree)
                self.assertEqual(read(with_asking(program, ("as", program.asking, program.kind))), tree)

    def test_chains_by_chance(self):
        chance = random.Random(91)
        many = 0
        with RichKinds():
            while many < 60:
                program = chance_program(chance)
                tree = read(program)
                for _ in range(6):
                    steps = [step for step in on_steps(program) if judge_chain(program, [step]) is None]
                    if steps:
                        many += 1
                        program = led_by(program, [chance.choice(steps)])
                        self.assertEqual(read(program), tree)

    def test_settled_programs_by_chance(self):
        chance = random.Random(92)
        for _ in range(60):
            program = chance_program(chance)
            try:
                settled = settled_program(program)
            except BadChain:
                continue
            self.assertEqual(read(settled), read(program))
            try:
                self.assertEqual(read(without_definitions(program)), read(program))
            except BadTerm:
                continue

    def test_renamed_bindings(self):
        one = term_of("(for x (table emp) (let f (fn y (plus y (field x age))) (one (use f 1))))")
        other = term_of("(for v (table emp) (let w (fn x (plus x (field v age))) (one (use w 1))))")
        self.assertEqual(read(Program(HEADS, (), one)), read(Program(HEADS, (), other)))


def doubling(first, count):
    """Definitions d0, d1, .., each of which uses the one before twice."""
    definitions = [("d0", first)]
    for number in range(1, count):
        ahead = ("name", f"d{number - 1}")
        definitions.append((f"d{number}", ("fn", "l", ("use", ahead, ("use", ahead, ("name", "l"))))))
    return definitions


class BoundsTest(unittest.TestCase):
    def test_many_uses_and_deep_trees(self):
        first = ("fn", "l", nested(15, lambda part: ("for", "y", ("table", "dept"), part), ("name", "l")))
        program = Program(HEADS, doubling(first, 8), ("use", ("name", "d7"), ("one", ("number", 1))))
        (items, tables, tests_, thing), = leaves_of(read(program))
        self.assertEqual((len(items), tables, tests_, thing), (1920, ("dept",) * 1920, (), ("number", 1)))

    def test_many_leaves(self):
        first = term_of("(fn l (join l l))")
        asking = term_of("(for e (table emp) (use d3 (use d1 (use d0 (where (field e boss) (one (field e age)))))))")
        tree = read(Program(HEADS, doubling(first, 4), asking))
        self.assertEqual(len(leaves_of(tree)), 2048)
        self.assertEqual({leaf[2:] for leaf in leaves_of(tree)}, {((("column", 0, "boss"),), ("column", 0, "age"))})

    def test_deep_kinds(self):
        first = ("fn", "l", nested(7, lambda part: ("one", part), ("name", "l")))
        program = Program(HEADS, doubling(first, 8), ("use", ("name", "d7"), ("number", 1)))
        self.assertEqual(ask_count(program.kind), 896)
        tree = read(program)
        self.assertIsNone(tree_fault(tree))
        value = told_values(tree, (), any_store(random.Random(1)))
        for _ in range(896):
            value, = value
        self.assertEqual(value, 1)

    def test_functions_that_keep_functions(self):
        # each function keeps all names before it; moving one must not move those over and over again
        text = "(for d (table dept) (use f17 1))"
        for number in reversed(range(1, 18)):
            text = f"(let f{number} (fn y (join (use f{number - 1} y) (none))) {text})"
        term = read_form_term(f"(let f0 (fn y (one (plus y x))) {text})")
        thing = read_term(HEADS, term, [("x", ("column", 0, "age"), 1)], 1)
        self.assertEqual(thing, thing_of("(list (for dept (leaf (tests) (plus 1 (column 0 age)))))"))

    def test_long_terms(self):
        term = nested(190, lambda part: ("plus", part, ("number", 1)), ("name", "x"))
        thing = read_term(HEADS, term, [("x", ("number", 0), 0)], 5)
        self.assertEqual(cell_text(thing), "(plus " * 190 + "0" + " 1)" * 190)
        term = nested(190, lambda part: ("use", ("fn", "y", ("name", "y")), part), least_term(random.Random(2), "int"))
        self.assertEqual(read_term(HEADS, term, [], 0)[0], "number")


def read_form_term(text):
    """A term from a text that may be too deep for a form."""
    tokens = text.replace("(", " ( ").replace(")", " ) ").split()

    def one(at):
        if tokens[at] != "(":
            return (int(tokens[at]) if tokens[at].isdigit() else tokens[at]), at + 1
        items = []
        at += 1
        while tokens[at] != ")":
            item, at = one(at)
            items.append(item)
        return tuple(items), at + 1

    def term(form):
        if isinstance(form, int):
            return ("number", form)
        if isinstance(form, str):
            return ("name", form)
        if form[0] in ("let", "for", "fn"):
            return (form[0], form[1], *[term(part) for part in form[2:]])
        return form if form[0] in ("table", "none") else (form[0], *[term(part) for part in form[1:]])

    return term(one(0)[0])


if __name__ == "__main__":
    unittest.main()
