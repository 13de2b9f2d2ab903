"""[5.6] to [5.8], and the example behind them."""

import random
import unittest

from listasks.meaning import askings, meaning, trail
from listasks.programs import Program
from listasks.stores import Store
from listasks.texts import term_of
from tests.helping import nested
from tests.making import DEFINITIONS, HEADS, any_asking, any_store
from tests.meant import meant

TWO_HEADS = (("dept", (("name", "text"),)), ("emp", (("age", "int"), ("dept", "text"), ("who", "text"))))


def filled():
    store = Store(TWO_HEADS)
    for name in ("b", "a"):
        store.put("dept", (name,))
    for row in ((30, "a", "ann"), (41, "b", "bob"), (30, "a", "cy")):
        store.put("emp", row)
    return store


def asked(text, definitions=()):
    return Program(TWO_HEADS, tuple((name, term_of(term)) for name, term in definitions), term_of(text))


class MeaningTest(unittest.TestCase):
    def value(self, text, definitions=()):
        """The value of a term of any kind over the store."""
        told = meaning(asked(f"(one {text})", definitions), filled())
        self.assertEqual(len(told), 1)
        return told[0]

    def test_each_word(self):
        cases = (
            ("5", 5), ('"x"', "x"), ("(truth yes)", True), ("(none)", []), ("(as (none) (list text))", []),
            ("(use (fn x (plus x 1)) 2)", 3), ("(let x 2 (times x x))", 4), ("(one 1)", [1]),
            ('(record a 1 b "x")', (("a", 1), ("b", "x"))), ("(record)", ()),
            ("(field (record a 1 b 2) b)", 2), ("(join (one 1) (join (one 2) (one 1)))", [1, 2, 1]),
            ("(for x (join (one 1) (one 2)) (join (one x) (one (times x 10))))", [1, 10, 2, 20]),
            ("(for x (none) (one 1))", []), ("(if (truth yes) 1 2)", 1), ("(if (truth no) 1 2)", 2),
            ("(where (truth yes) (one 1))", [1]), ("(where (truth no) (one 1))", []), ("(plus 2 3)", 5),
            ("(minus 2 3)", -1), ("(times -2 3)", -6), ("(equal 2 2)", True), ('(equal "a" "b")', False),
            ("(equal (truth no) (truth no))", True), ("(less 1 2)", True), ("(less 2 2)", False),
            ("(and (truth yes) (truth no))", False), ("(and (truth yes) (truth yes))", True),
            ("(or (truth no) (truth yes))", True), ("(or (truth no) (truth no))", False), ("(not (truth no))", True),
            ("(empty (none))", True), ("(empty (one 1))", False), ("(count (table emp))", 3), ("(count (none))", 0),
            ("(total (for e (table emp) (one (field e age))))", 101), ("(total (none))", 0),
            ("(table dept)", [(("name", "b"),), (("name", "a"),)]),
        )
        for text, value in cases:
            told = self.value(text)
            self.assertEqual(told, value, text)
            self.assertIs(told.__class__, value.__class__, text)

    def test_large_numbers(self):
        text = "9" * 30
        for _ in range(6):
            text = f"(let x {text} (times x x))"
        self.assertEqual(self.value(text), int("9" * 30) ** 64)

    def test_rows_come_by_their_numbers(self):
        store = filled()
        store.take("dept", 1)
        store.put("dept", ("c",))
        store.put("dept", ("b",))
        program = asked("(for d (table dept) (one (field d name)))")
        self.assertEqual(meaning(program, store), ["a", "c", "b"])

    def test_names(self):
        self.assertEqual(self.value("(let x 1 (let x (plus x 1) (plus x x)))"), 4)
        self.assertEqual(self.value("(join (let x 1 (one x)) (for x (one 2) (one x)))"), [1, 2])
        self.assertEqual(self.value("(for x (one 1) (for x (one (plus x 5)) (one x)))"), [6])

    def test_a_function_keeps_the_names_of_its_place(self):
        self.assertEqual(self.value("(let x 1 (let f (fn y (plus x y)) (let x 100 (use f 10))))"), 11)
        self.assertEqual(self.value("(let f (fn x (fn y (minus x y))) (use (use f 10) 3))"), 7)
        self.assertEqual(self.value("(let f (let x 5 (fn y (times x y))) (record a (use f 2) b (use f 3)))"),
                         (("a", 10), ("b", 15)))
        self.assertEqual(self.value("(use (field (record f (fn x (plus x 1))) f) 1)"), 2)
        self.assertEqual(self.value("(for f (join (one (fn x (plus x 1))) (one (fn x (times x 7)))) (one (use f 3)))"),
                         [4, 21])

    def test_definitions_have_no_bound_names(self):
        definitions = (("k", "7"), ("addk", "(fn y (plus y k))"), ("g", "(fn f (let y 1 (use f 1)))"))
        self.assertEqual(self.value("(for y (one 100) (one (use addk y)))", definitions), [107])
        self.assertEqual(self.value("(let y 5 (use g (fn z (plus z y))))", definitions), 6)
        self.assertEqual(self.value("(use g addk)", definitions), 8)

    def test_all_lists_are_new(self):
        store = filled()
        text = "(let l (one (one 1)) (let r (record a l b l) (join (one r) (join (one r) (for x l (one (record a l b l)))))))"
        program = asked(text)
        one, other = meaning(program, store), meaning(program, store)
        lists = all_lists(one) + all_lists(other)
        self.assertEqual(len({id(found) for found in lists}), len(lists))
        self.assertEqual(len(all_lists(one)), 1 + 3 * 2 * 2)
        self.assertEqual(one, other)
        one[0][0][1].clear()
        self.assertEqual(meaning(program, store), other)
        none = meaning(asked("(let l (none) (join (one l) (one l)))"), store)
        self.assertEqual(none, [[], []])
        self.assertIsNot(none[0], none[1])

    def test_the_store_stays(self):
        store = filled()
        meaning(asked("(for e (table emp) (table dept))"), store)
        self.assertEqual(store, filled())
        self.assertEqual(store.following("emp"), 4)

    def test_by_another_way(self):
        chance = random.Random(56)
        for _ in range(400):
            program = Program(HEADS, DEFINITIONS, any_asking(chance, chance.choice((4, 5, 6))))
            store = any_store(chance)
            value, reads = meant(program, store)
            self.assertEqual(repr(meaning(program, store)), repr(value))
            self.assertEqual(trail(program, store), reads)
            self.assertEqual(askings(program, store), len(reads))

    def test_functions_used_deep_within_each_other(self):
        definitions = [("f0", "(fn x (plus x 1))")]
        for number in range(1, 8):
            body = nested(9, lambda inner: f"(plus 1 {inner})", f"(use f{number - 1} x)")
            definitions.append((f"f{number}", f"(fn x {body})"))
        body = nested(15, lambda inner: f"(plus 0 {inner})", "(use f7 1)")
        program = asked(f"(one {body})", definitions)
        self.assertEqual(meaning(program, filled()), [65])


def all_lists(value):
    if isinstance(value, list):
        return [value] + [found for item in value for found in all_lists(item)]
    if isinstance(value, tuple):
        return [found for _, part in value for found in all_lists(part)]
    return []


class TrailTest(unittest.TestCase):
    D, E = "(table dept)", "(table emp)"
    # terms of kind truth that read one table
    DT, ET = "(empty (table dept))", "(empty (table emp))"

    def read(self, text, definitions=()):
        return " ".join(trail(asked(text, definitions), filled()))

    def test_from_left_to_right(self):
        for word in ("and", "or"):
            for one in ("yes", "no"):
                test = f"({word} (or (truth {one}) (and (truth {one}) {self.DT})) {self.ET})"
                self.assertEqual(self.read(f"(one {test})"), "dept emp")
        self.assertEqual(self.read(f"(one (record a {self.ET} b {self.DT} c {self.ET}))"), "emp dept emp")
        self.assertEqual(self.read(f"(join (for d {self.D} (one 1)) (for e {self.E} (one 1)))"), "dept emp")
        self.assertEqual(self.read(f"(one (plus (count {self.E}) (count {self.D})))"), "emp dept")
        self.assertEqual(self.read(f"(one (equal {self.ET} {self.DT}))"), "emp dept")
        self.assertEqual(self.read(f"(one (field (record a 1 b {self.DT}) a))"), "dept")

    def test_the_arm_that_is_taken(self):
        self.assertEqual(self.read(f"(if (not {self.ET}) {self.D} (none))"), "emp dept")
        self.assertEqual(self.read(f"(if {self.ET} {self.D} (none))"), "emp")
        self.assertEqual(self.read(f"(where {self.ET} {self.D})"), "emp")
        self.assertEqual(self.read(f"(where (not {self.ET}) {self.D})"), "emp dept")

    def test_a_for(self):
        self.assertEqual(self.read(f"(for e {self.E} {self.D})"), "emp dept dept dept")
        self.assertEqual(self.read(f"(for x (none) {self.D})"), "")
        self.assertEqual(self.read(f"(for e {self.E} (for d {self.D} (one 1)))"), "emp dept dept dept")

    def test_functions_and_lets(self):
        self.assertEqual(self.read(f"(let f (fn x {self.D}) (none))"), "")
        self.assertEqual(self.read(f"(let f (fn x {self.D}) (join (use f 1) (use f 2)))"), "dept dept")
        self.assertEqual(self.read(f"(let l {self.D} (join l (join l l)))"), "dept")
        self.assertEqual(self.read(f"(let l {self.D} (none))"), "dept")
        # the function, then the argument, then the body
        self.assertEqual(self.read(f"(use (if {self.ET} (fn x {self.E}) (fn x {self.E})) {self.D})"), "emp dept emp")
        self.assertEqual(self.read(f"(use (fn x (none)) {self.D})"), "dept")

    def test_definitions_are_evaluated_anew(self):
        definitions = (("depts", "(table dept)"), ("two", "(join depts depts)"))
        self.assertEqual(self.read("(join two depts)", definitions), "dept dept dept")
        self.assertEqual(self.read("(none)", definitions), "")

    def test_an_empty_table_is_read(self):
        store = Store(TWO_HEADS)
        self.assertEqual(trail(asked("(for d (table dept) (table emp))"), store), ("dept",))
        self.assertEqual(askings(asked("(join (table dept) (table dept))"), store), 2)

    def test_example(self):
        program = asked("(for d (table dept) (for e (table emp) (one 1)))")
        self.assertEqual(trail(program, filled()), ("dept", "emp", "emp"))
        self.assertEqual(askings(program, filled()), 3)


if __name__ == "__main__":
    unittest.main()
