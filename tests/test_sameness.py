"""[15.9] and [15.10], and what [0.1] says of plain programs."""

import random
import unittest

from listasks.chains import judge_chain, led_by, on_steps, settled_program
from listasks.errors import BadChain
from listasks.folds import count_maps, tally_of
from listasks.meaning import meaning
from listasks.pieces import Piece, constants_of, pair_off, pieces_of, renamings_of
from listasks.programs import Program, without_definitions
from listasks.sameness import (
    Parting,
    are_alike,
    balance_of,
    fresh_values,
    pairs_of,
    parting_of,
    parting_store,
)
from listasks.stores import Store
from listasks.texts import store_text, term_of
from listasks.values import same_bag
from tests.helping import nested, refusal
from tests.making_plain import HEADS, KINDS, any_plain_program, any_small_store, is_small, shown_in
from tests.test_folds import EDGE, FREE, LOOP, NOTHING, small_piece
from tests.test_pieces import A, B, CHAIN, EMP, TURNED, ZERO, plain, turned_piece, u

PAIRED = "(for x (table emp) (for y (table emp) (where (equal (field x dept) (field y dept)) (one (field x who)))))"
PLAIN = "(for x (table emp) (one (field x who)))"


def emp(text):
    return plain(text, EMP, ())


class BalanceTest(unittest.TestCase):
    def test_balance_of(self):
        self.assertEqual(balance_of((), ()), ())
        self.assertEqual(balance_of([CHAIN], [TURNED]), ())
        self.assertEqual(balance_of((CHAIN, NOTHING), (NOTHING, TURNED)), ())
        self.assertEqual(balance_of((NOTHING,), ()), ((NOTHING, 1),))
        self.assertEqual(balance_of((), (NOTHING, NOTHING)), ((NOTHING, -2),))
        other = Piece((), (), (B,))
        self.assertEqual(balance_of((NOTHING,), (other,)), ((NOTHING, 1), (other, -1)))
        self.assertEqual(balance_of((EDGE,), (LOOP,)), ((EDGE, 1),))
        self.assertEqual(balance_of((LOOP, LOOP), (EDGE,)), ((LOOP, 1), (EDGE, -1)))
        # the constants of both are let by
        constant = Piece((("edge", (A, u(0))),), ("text",), (u(0),))
        told = balance_of((LOOP,), (constant,))
        self.assertEqual(told, ((LOOP, 1), (constant, -1)))
        self.assertEqual(balance_of((constant,), (LOOP,)), ((constant, 1), (LOOP, -1)))
        self.assertEqual(balance_of((EDGE,), (constant,)), (
            (Piece((("edge", (u(0), A)),), ("text",), (A,)), 1),
            (LOOP, 1),
            (EDGE, 1),
        ))

    def test_it_is_empty_exactly_if_the_pieces_pair_off(self):
        chance = random.Random(310)
        even = 0
        for _ in range(150):
            one = [small_piece(chance) for _ in range(chance.randrange(3))]
            other = [turned_piece(chance, piece) for piece in one]
            chance.shuffle(other)
            if chance.random() < 0.5:
                other[:1] = [small_piece(chance) for _ in range(chance.randrange(3))]
            if not is_small(one, other):
                continue
            told = balance_of(one, other)
            self.assertEqual(told == (), pair_off(one, other) is not None)
            turned = balance_of(other, one)
            self.assertEqual(sorted((len(image.rows), len(image.kinds), -number) for image, number in turned),
                             sorted((len(image.rows), len(image.kinds), number) for image, number in told))
            self.assertEqual(sum(number for _, number in turned), -sum(number for _, number in told))
            even += told == ()
        self.assertGreater(even, 40)


class FreshTest(unittest.TestCase):
    def test_fresh_values(self):
        for kinds, constants, due in (
            ((), (), ()),
            (("int", "int", "text", "int", "text"), (), (1000, 1001, "w1", 1002, "w2")),
            (("int", "int"), (("number", 1000), ("number", 1002)), (1001, 1003)),
            (("int",), (("number", 999), ("number", -1000), ("text", "1000")), (1000,)),
            (("text", "text", "text"), (("text", "w2"), ("text", "w4"), ("text", "w")), ("w1", "w3", "w5")),
            (("text",), [("number", 1), ("text", "w1")], ("w2",)),
        ):
            piece = Piece((), kinds, ())
            self.assertEqual(fresh_values(piece, constants), due)

    def test_parting_store(self):
        piece = Piece((("mark", (u(0), ZERO)), ("on", ()), ("edge", (u(1), A)), ("mark", (A, u(2)))), ("text", "text", "int"), (u(1), u(2), A))
        store, values = parting_store(piece, (ZERO, A), HEADS)
        due = Store(HEADS)
        due.put("mark", ("w1", False, 0))
        due.put("on", (False,))
        due.put("edge", ("w2", "a"))
        due.put("mark", ("a", False, 1000))
        self.assertEqual((store, values), (due, ("w2", 1000, "a")))
        self.assertIsInstance(store, Store)
        self.assertEqual(parting_store(NOTHING, (), HEADS), (Store(HEADS), ("a",)))
        # heads in any order
        heads = [[table, [list(column) for column in reversed(columns)]] for table, columns in reversed(HEADS)]
        self.assertEqual(parting_store(piece, (ZERO, A), heads), (due, ("w2", 1000, "a")))


class PartingTest(unittest.TestCase):
    def test_a_result(self):
        parting = Parting(Store(EMP), ("a",), 1, 2)
        self.assertEqual((parting.store, parting.shown, parting.one_count, parting.other_count), (Store(EMP), ("a",), 1, 2))
        self.assertEqual(parting, Parting(Store(EMP), ("a",), 1, 2))
        for other in (Parting(Store(HEADS), ("a",), 1, 2), Parting(Store(EMP), ("b",), 1, 2), Parting(Store(EMP), ("a",), 0, 2),
                      Parting(Store(EMP), ("a",), 1, 3), (Store(EMP), ("a",), 1, 2), None):
            self.assertFalse(parting == other)
            self.assertNotEqual(parting, other)

    def test_the_example(self):
        one, other = emp(PAIRED), emp(PLAIN)
        told = parting_of(one, other)
        self.assertEqual(store_text(told.store),
                         '(store (tables emp (columns dept text who text)) (rows 3 1 (cells "w1" "w1") 2 (cells "w1" "w1")))')
        self.assertEqual((told.shown, told.one_count, told.other_count), (("w1",), 4, 2))
        self.assertEqual(parting_of(other, one), Parting(told.store, ("w1",), 2, 4))
        self.assertIsNone(pairs_of(one, other))
        self.assertFalse(are_alike(one, other))
        # what was told may be spoilt
        told.store.take("emp", 1)
        self.assertEqual(len(parting_of(one, other).store), 2)

    def test_alike(self):
        one = emp("(for x (table emp) (for y (table emp) (where (equal (field y dept) (field x who)) (one (field y who)))))")
        other = emp("(let t (table emp) (for y t (for x t (where (equal (field x who) (field y dept)) (one (field y who))))))")
        self.assertEqual(pairs_of(one, other), (0,))
        self.assertTrue(are_alike(one, other))
        self.assertIsNone(parting_of(one, other))
        text = "(join (one \"a\") (join (for x (table emp) (one (field x who))) (one \"b\")))"
        self.assertEqual(pairs_of(emp(text), emp("(join (one \"b\") (join (one \"a\") (for z (table emp) (one (field z who)))))")), (1, 2, 0))
        self.assertEqual(pairs_of(emp("(as (none) (list text))"), emp("(where (equal 1 2) (one \"x\"))")), ())
        self.assertTrue(are_alike(emp("(as (none) (list text))"), emp("(where (equal 1 2) (one \"x\"))")))

    def test_no_rows_at_all(self):
        one, other = emp("(one \"a\")"), emp("(as (none) (list text))")
        self.assertEqual(parting_of(one, other), Parting(Store(EMP), ("a",), 1, 0))
        self.assertEqual(parting_of(other, one), Parting(Store(EMP), ("a",), 0, 1))
        self.assertEqual(parting_of(one, emp("(join (one \"a\") (one \"a\"))")), Parting(Store(EMP), ("a",), 1, 2))

    def test_errors(self):
        one = emp(PLAIN)
        deep = emp("(for x (table emp) (one (one (field x who))))")
        for call in (pairs_of, are_alike, parting_of):
            for left, right, due in (
                (one, plain("(for x (table edge) (one (field x a)))"), ("NotAlike",)),
                (one, emp("(one 1)"), ("NotAlike",)),
                (one, emp("(table emp)"), ("NotAlike",)),
                (one, deep, ("NotAlike",)),
                (deep, one, ("NotAlike",)),
                (deep, plain("(one (one 1))"), ("NotAlike",)),
                (deep, deep, ("NotPlain", -1, "kind")),
                (one, emp("(for x (table emp) (where (not (equal (field x who) \"a\")) (one (field x who))))"), ("NotPlain", 0, "test")),
                (emp("(join (one \"a\") (one (if (empty (table emp)) \"a\" \"b\")))"), one, ("NotPlain", 1, "cell")),
                (emp("(one (if (empty (table emp)) \"a\" \"b\"))"), emp("(where (empty (table emp)) (one \"a\"))"), ("NotPlain", 0, "cell")),
                (emp("(where (empty (table emp)) (one \"a\"))"), emp("(one (if (empty (table emp)) \"a\" \"b\"))"), ("NotPlain", 0, "test")),
            ):
                self.assertEqual(refusal(call, left, right), due)

    def test_deep_kinds_are_compared(self):
        term = nested(8, lambda inner: ("one", inner), ("number", 1))
        deep = Program(EMP, (("up", ("fn", "x", nested(18, lambda inner: ("one", inner), ("name", "x")))),),
                       ("use", ("name", "up"), ("use", ("name", "up"), ("use", ("name", "up"), term))))
        self.assertEqual(refusal(pairs_of, deep, deep), ("NotPlain", -1, "kind"))
        self.assertEqual(refusal(pairs_of, deep, emp(PLAIN)), ("NotAlike",))

    def test_by_chance(self):
        chance = random.Random(311)
        parted = 0
        alike = 0
        for _ in range(220):
            kind = chance.choice(KINDS)
            one = any_plain_program(chance, kind, 2)
            other = any_plain_program(chance, kind, 2)
            mine, others = pieces_of(one), pieces_of(other)
            if not is_small(mine, others):
                continue
            pairs, parting = pairs_of(one, other), parting_of(one, other)
            self.assertEqual(pairs, pair_off(mine, others))
            self.assertEqual((pairs is None, are_alike(one, other)), (parting is not None, parting is None))
            if parting is None:
                alike += 1
                self.check_alike(chance, one, other)
            else:
                parted += 1
                self.check_parted(one, other, parting)
        self.assertGreater(parted, 80)
        self.assertGreater(alike, 5)

    def check_alike(self, chance, one, other):
        for _ in range(6):
            store = any_small_store(chance)
            self.assertTrue(same_bag(meaning(one, store), meaning(other, store)))

    def check_parted(self, one, other, parting):
        mine, others = pieces_of(one), pieces_of(other)
        image, number = balance_of(mine, others)[0]
        self.assertEqual((parting.store, parting.shown), parting_store(image, constants_of(mine + others), HEADS))
        counts = [[shown_in(program.kind, value) for value in meaning(program, parting.store)].count(parting.shown)
                  for program in (one, other)]
        self.assertEqual([parting.one_count, parting.other_count], counts)
        self.assertEqual(counts, [sum(count_maps(piece, parting.store, parting.shown) for piece in lot) for lot in (mine, others)])
        self.assertEqual(counts[0] - counts[1], number * len(list(renamings_of(image, image))))
        self.assertFalse(same_bag(meaning(one, parting.store), meaning(other, parting.store)))
        # no store with a row less parts them
        for table, _ in HEADS:
            for at, _ in parting.store.rows_of(table):
                smaller = parting.store.copied()
                smaller.take(table, at)
                self.assertTrue(same_bag(meaning(one, smaller), meaning(other, smaller)))

    def test_no_smaller_store_at_all(self):
        chance = random.Random(312)
        for _ in range(60):
            kind = chance.choice(KINDS)
            one, other = any_plain_program(chance, kind, 2), any_plain_program(chance, kind, 2)
            if not is_small(pieces_of(one), pieces_of(other)):
                continue
            parting = parting_of(one, other)
            if parting is None:
                continue
            for _ in range(25):
                store = any_small_store(chance, 2)
                for table, _ in HEADS:
                    for number, _ in store.rows_of(table):
                        if len(store) >= len(parting.store):
                            store.take(table, number)
                if len(store) < len(parting.store):
                    self.assertTrue(same_bag(meaning(one, store), meaning(other, store)))

    def test_twins_by_chance(self):
        chance = random.Random(313)
        for _ in range(60):
            program = any_plain_program(chance)
            other = without_definitions(program)
            self.assertTrue(are_alike(program, other))
            self.assertIsNone(parting_of(program, other))
            for _ in range(3):
                store = any_small_store(chance)
                self.assertTrue(same_bag(meaning(program, store), meaning(other, store)))
                self.assertEqual(tally_of(pieces_of(program), store), tally_of(pieces_of(other), store))

    def test_chains_never_part_a_program_from_itself(self):
        chance = random.Random(314)
        led = 0
        for _ in range(40):
            program = any_plain_program(chance)
            here = program
            for _ in range(4):
                steps = [step for step in on_steps(here) if judge_chain(here, [step]) is None]
                if not steps:
                    break
                here = led_by(here, [chance.choice(steps)])
                led += 1
                self.assertEqual(pairs_of(program, here), pairs_of(program, program))
                self.assertIsNone(parting_of(here, program))
            try:
                self.assertTrue(are_alike(program, settled_program(program)))
            except BadChain:
                pass
        self.assertGreater(led, 60)

    def test_more_constants_than_foldings_walk(self):
        many = " ".join(f"(join (one {number})" for number in range(12)) + " (one 12)" + ")" * 12
        few = " ".join(f"(join (one {number})" for number in range(12, 0, -1)) + " (one 0)" + ")" * 12
        one, other = emp(many), emp(few)
        self.assertEqual(pairs_of(one, other), tuple(range(12, -1, -1)))
        self.assertIsNone(parting_of(one, other))

    def test_pieces_that_stay(self):
        one, other = [FREE], [EDGE]
        balance_of(one, other)
        self.assertEqual((one, other), ([FREE], [EDGE]))
        self.assertEqual(term_of(PLAIN), emp(PLAIN).asking)


if __name__ == "__main__":
    unittest.main()
