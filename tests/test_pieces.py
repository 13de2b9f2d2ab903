"""[15.1] to [15.5], and constants_of of [15.7]."""

import inspect
import itertools
import random
import unittest

from listasks import pieces as pieces_module
from listasks.chains import judge_chain, led_by, on_steps, settled_program
from listasks.compiling import questions_of
from listasks.errors import BadChain, BadTerm
from listasks.members import Member
from listasks.pieces import (
    MOST_ROWS,
    Piece,
    constants_of,
    least_spelling,
    pair_off,
    piece_of,
    pieces_of,
    renaming_fault,
    renaming_of,
    renamings_of,
    standard_asking,
)
from listasks.programs import Program, without_definitions
from listasks.sameness import are_alike
from listasks.terms import check_term
from listasks.texts import term_of, term_text
from tests.helping import refusal
from tests.making_plain import DEFINITIONS, HEADS, KINDS, any_plain_program


def u(number):
    return ("unknown", number)


A, B, ZERO = ("text", "a"), ("text", "b"), ("number", 0)
EMP = [("emp", [("dept", "text"), ("who", "text")])]
CHAIN = Piece((("edge", (u(0), u(1))), ("edge", (u(1), u(2)))), ("text",) * 3, (u(0), u(2)))
TURNED = Piece((("edge", (u(0), u(1))), ("edge", (u(2), u(0)))), ("text",) * 3, (u(2), u(1)))


def plain(text, heads=HEADS, definitions=DEFINITIONS):
    return Program(heads, definitions, term_of(text))


def pieces(text):
    return pieces_of(plain(text))


class PieceTest(unittest.TestCase):
    def test_a_result(self):
        piece = Piece(("x",), (), None)
        self.assertEqual((piece.rows, piece.kinds, piece.shown), (("x",), (), None))
        self.assertEqual(piece, Piece(("x",), (), None))
        for other in (Piece((), (), None), Piece(("x",), ("int",), None), Piece(("x",), (), ()), (("x",), (), None), None):
            self.assertFalse(piece == other)
            self.assertNotEqual(piece, other)
        self.assertEqual(MOST_ROWS, 4)
        self.assertEqual(pieces_module.MOST_ROWS, 4)


class PiecesOfTest(unittest.TestCase):
    def test_the_example(self):
        program = plain("(for x (table emp) (for y (table emp) (where (equal (field x dept) (field y dept)) (one (field x who)))))", EMP, ())
        self.assertEqual(pieces_of(program), (Piece((("emp", (u(0), u(1))), ("emp", (u(0), u(2)))), ("text",) * 3, (u(1),)),))

    def test_programs(self):
        for text, due in (
            ("(as (none) (list int))", ()),
            ("(one 3)", (Piece((), (), (("number", 3),)),)),
            ("(one (record))", (Piece((), (), ()),)),
            ("(one (record a 1 b \"x\"))", (Piece((), (), (("number", 1), ("text", "x"))),)),
            ("(join (one 3) (join (one 4) (one 3)))", tuple(Piece((), (), (("number", n),)) for n in (3, 4, 3))),
            ("(for e (table edge) (one (field e b)))", (Piece((("edge", (u(0), u(1))),), ("text", "text"), (u(1),)),)),
            ("(for e (table edge) (one (record)))", (Piece((("edge", (u(0), u(1))),), ("text", "text"), ()),)),
            ("(for m (table mark) (one (field m n)))", (Piece((("mark", (u(0), u(1))),), ("text", "int"), (u(1),)),)),
            # a table of truths alone
            ("(for o (table on) (for p (table on) (one 1)))", (Piece((("on", ()), ("on", ())), (), (("number", 1),)),)),
            ("(for e (table edge) (where (equal (field e a) \"a\") (one (field e a))))",
             (Piece((("edge", (A, u(0))),), ("text",), (A,)),)),
            ("(for e (table edge) (where (equal (field e a) (field e b)) (one (field e b))))",
             (Piece((("edge", (u(0), u(0))),), ("text",), (u(0),)),)),
            # constants alone, one that stands in no row
            ("(for e (table edge) (where (and (equal (field e a) \"a\") (equal (field e b) (field e a))) (one \"b\")))",
             (Piece((("edge", (A, A)),), (), (B,)),)),
            # groups along chains of tests
            ("(for e (table edge) (for f (table edge) (where (and (equal (field e b) (field f a)) (and (equal (field f a) (field f b))"
             " (equal \"a\" (field f b)))) (one (record p (field e a) q (field e b))))))",
             (Piece((("edge", (u(0), A)), ("edge", (A, A))), ("text",), (u(0), A)),)),
            ("(for e (table edge) (for m (table mark) (where (equal (field m at) (field e b)) (where (equal (field m n) 0)"
             " (one (field m n))))))", (Piece((("edge", (u(0), u(1))), ("mark", (u(1), ZERO))), ("text", "text"), (ZERO,)),)),
            # doubles, and members that cannot be
            ("(join (table edge) (table edge))", (Piece((("edge", (u(0), u(1))),), ("text", "text"), (u(0), u(1))),) * 2),
            ("(for e (table edge) (where (and (equal (field e a) \"a\") (equal (field e a) \"b\")) (one 1)))", ()),
            ("(for e (table edge) (where (and (equal (field e a) \"a\") (and (equal (field e a) (field e b)) (equal \"b\" (field e b))))"
             " (one 1)))", ()),
            ("(where (equal 1 2) (one 1))", ()),
            ("(join (where (equal \"a\" \"b\") (one 1)) (one 2))", (Piece((), (), (("number", 2),)),)),
            ("(where (equal 1 1) (one 1))", (Piece((), (), (("number", 1),)),)),
            # reached through functions, lets, definitions and inner fors
            ("(for e edges (where (use (use twin (field e a)) \"a\") (one (use same (field e b)))))",
             (Piece((("edge", (A, u(0))),), ("text",), (u(0),)),)),
            ("(let f (fn e (one (field e a))) (let t (table edge) (for e (for g t (where (equal (field g a) (field g b)) (one g)))"
             " (use f e))))", (Piece((("edge", (u(0), u(0))),), ("text",), (u(0),)),)),
            ("(for v (for e (table edge) (for f (table edge) (where (equal (field e b) (field f a)) (one (record p (field e a)"
             " q (field f b)))))) (one v))", (CHAIN,)),
        ):
            with self.subTest(text=text):
                self.assertEqual(pieces(text), due)

    def test_not_plain(self):
        rows = "(for a (table on) (for b (table on) (for c (table on) (for d (table on) {}))))"
        for text, due in (
            ("(one (truth yes))", (-1, "kind")),
            ("(one (one 1))", (-1, "kind")),
            ("(table mark)", (-1, "kind")),
            ("(one (record a (record)))", (-1, "kind")),
            ("(one (record a 1 b (one 1)))", (-1, "kind")),
            ("(as (none) (list truth))", (-1, "kind")),
            (rows.format("(for e (table on) (one (plus 1 1)))"), (0, "rows")),
            (rows.format("(for e (table on) (where (less 1 2) (one 1)))"), (0, "rows")),
            (rows.format("(one 1)"), None),
            ("(where (less 1 2) (one (plus 1 1)))", (0, "test")),
            ("(for m (table mark) (where (field m hot) (one 1)))", (0, "test")),
            ("(for m (table mark) (where (not (equal 1 2)) (one 1)))", (0, "test")),
            ("(for m (table mark) (where (or (equal 1 2) (equal 1 1)) (one 1)))", (0, "test")),
            ("(for m (table mark) (where (equal (field m hot) (truth yes)) (one 1)))", (0, "test")),
            ("(for m (table mark) (where (equal (field m hot) (field m hot)) (one 1)))", (0, "test")),
            ("(for m (table mark) (where (equal (field m n) (plus 1 1)) (one 1)))", (0, "test")),
            ("(for m (table mark) (where (equal (count (table mark)) 1) (one 1)))", (0, "test")),
            ("(where (empty (table edge)) (one 1))", (0, "test")),
            ("(for m (table mark) (one (plus (field m n) 1)))", (0, "cell")),
            ("(for m (table mark) (one (record a (field m n) b (count (table edge)))))", (0, "cell")),
            ("(for m (table mark) (one (if (field m hot) 1 2)))", (0, "cell")),
            # the first member counts, whatever stands behind it
            ("(join (one 1) (join (one (times 2 2)) (where (less 1 2) (one 1))))", (1, "cell")),
            ("(join (where (less 1 2) (one 1)) (one (times 2 2)))", (0, "test")),
            # also where another one cannot be
            ("(join (where (equal 1 2) (one 1)) (one (times 2 2)))", (1, "cell")),
            ("(where (and (equal 1 2) (less 1 2)) (one 1))", (0, "test")),
        ):
            with self.subTest(text=text):
                for call in (pieces_of, standard_asking):
                    self.assertEqual(refusal(call, plain(text)), due and ("NotPlain", *due))

    def test_definitions_may_be_anything(self):
        definitions = (("deep", ("fn", "x", ("one", ("one", ("count", ("name", "x")))))),)
        self.assertEqual(len(pieces_of(plain("(table edge)", definitions=definitions))), 1)

    def test_members_without_bounds(self):
        member = Member(("edge",) * 300, tuple(("equal", ("column", row, "b"), ("column", row + 1, "a")) for row in range(299)),
                        (), (), (("column", 0, "a"), ("column", 299, "b")))
        piece = piece_of(member, HEADS)
        self.assertEqual(piece.rows, tuple(("edge", (u(row), u(row + 1))) for row in range(300)))
        self.assertEqual((piece.kinds, piece.shown), (("text",) * 301, (u(0), u(300))))
        clash = (("equal", ("column", 0, "a"), A), ("equal", ("column", 299, "b"), B))
        same = tuple(("equal", ("column", row, "a"), ("column", row, "b")) for row in range(300))
        self.assertIsNone(piece_of(Member(member.tables, member.tests + same + clash, (), (), ()), HEADS))
        self.assertEqual(piece_of(Member(member.tables, member.tests + same + clash[:1], (), (), ()), HEADS).rows,
                         (("edge", (A, A)),) * 300)

    def test_by_chance(self):
        chance = random.Random(290)
        gone = 0
        for _ in range(250):
            program = any_plain_program(chance)
            members = questions_of(program)[0].members
            due = [piece_by_groups(member) for member in members]
            gone += due.count(None)
            self.assertEqual(pieces_of(program), tuple(piece for piece in due if piece is not None))
            self.assertEqual([piece_of(member, HEADS) for member in members], due)
        self.assertGreater(gone, 10)


def piece_by_groups(member):
    """The piece of a member, its groups found by joining sets until none can be joined."""
    columns = {table: [(column, kind) for column, kind in found if kind != "truth"] for table, found in HEADS}
    all_columns = [("column", row, column) for row, table in enumerate(member.tables) for column, _ in columns[table]]
    groups = [{cell} for cell in all_columns] + [{one, other} for _, one, other in member.tests] + [{cell} for cell in member.cells]
    joined = True
    while joined:
        joined = False
        for one, other in itertools.combinations(groups, 2):
            if one & other:
                groups = [group for group in groups if group not in (one, other)] + [one | other]
                joined = True
                break
    worth_of, kinds = {}, []
    for group in groups:
        constants = [cell for cell in group if cell[0] != "column"]
        if len(constants) > 1:
            return None
        if constants:
            worth_of.update({cell: constants[0] for cell in group})
    rows = []
    for row, table in enumerate(member.tables):
        for column, kind in columns[table]:
            cell = ("column", row, column)
            if cell not in worth_of:
                group = next(group for group in groups if cell in group)
                worth_of.update({other: u(len(kinds)) for other in group})
                kinds.append(kind)
        rows.append((table, tuple(worth_of[("column", row, column)] for column, _ in columns[table])))
    return Piece(tuple(rows), tuple(kinds), tuple(worth_of[cell] for cell in member.cells))


class ConstantsTest(unittest.TestCase):
    def test_constants_of(self):
        self.assertEqual(constants_of(()), ())
        self.assertEqual(constants_of([CHAIN]), ())
        one = Piece((("mark", (B, ZERO)), ("mark", (u(0), ("number", -3)))), ("text",), (B, ("number", 12)))
        other = Piece((("edge", (A, B)),), (), (("text", ""),))
        self.assertEqual(constants_of([one, other, one]),
                         (("number", -3), ZERO, ("number", 12), ("text", ""), A, B))
        self.assertEqual(constants_of((one,)), (("number", -3), ZERO, ("number", 12), B))


class RenamingsTest(unittest.TestCase):
    def test_each_word(self):
        other = Piece((("mark", (u(0), u(1))), ("edge", (u(0), A))), ("text", "int"), (u(1),))
        one = Piece((("edge", (u(0), A)), ("mark", (u(0), u(1)))), ("text", "int"), (u(1),))
        for mine, mate, places, due in (
            (one, other, (1, 0), None),
            (one, other, [1, 0], None),
            (one, other, (0, 1), "table"),
            (one, other, (1,), "rows"),
            (one, other, (), "rows"),
            (one, other, (1, 0, 2), "rows"),
            (one, other, (1, 1), "rows"),
            (one, other, (2, 0), "rows"),
            (one, other, (-1, 0), "rows"),
            (one, other, (True, 0), "rows"),
            (one, other, (True, False), "rows"),
            (one, other, (1, None), "rows"),
            (one, other, ("1", "0"), "rows"),
            (one, Piece(other.rows[:1], (), ()), (0, 1), "rows"),
            (one, Piece(other.rows[:1], (), ()), (0,), "rows"),
            (one, Piece(other.rows, other.kinds, (u(0),)), (1, 0), "shown"),
            (one, Piece(other.rows, other.kinds, ()), (1, 0), "shown"),
            (one, Piece(other.rows, other.kinds, (u(1), u(1))), (1, 0), "shown"),
            # kinds are not compared
            (one, Piece(other.rows, ("int", "int"), (u(1),)), (1, 0), None),
            (one, Piece((other.rows[0], ("edge", (u(0), B))), other.kinds, (u(1),)), (1, 0), "worth"),
            (one, Piece((other.rows[0], ("edge", (u(0), u(2)))), other.kinds, (u(1),)), (1, 0), "worth"),
            (one, Piece((other.rows[0], ("edge", (u(2), A))), other.kinds, (u(1),)), (1, 0), "worth"),
            (one, Piece((other.rows[0], ("edge", (A, A))), other.kinds, (u(1),)), (1, 0), "worth"),
            (one, Piece((("edge", (u(0), u(0))), other.rows[0]), other.kinds, (u(1),)), (0, 1), "worth"),
            (CHAIN, TURNED, (1, 0), None),
            (CHAIN, TURNED, (0, 1), "worth"),
            (CHAIN, CHAIN, (0, 1), None),
            (CHAIN, CHAIN, (1, 0), "worth"),
            # the first of several faults
            (one, Piece((("edge", (B, B)), ("edge", (u(0), A))), other.kinds, ()), (0, 1), "table"),
            (one, Piece((other.rows[0], ("edge", (B, B))), other.kinds, ()), (1, 0), "worth"),
            (one, Piece((other.rows[0], ("edge", (B, B))), other.kinds, ()), (0, 0), "rows"),
            # two unknowns onto one, and one onto two
            (Piece((("edge", (u(0), u(1))),), (), ()), Piece((("edge", (u(0), u(0))),), (), ()), (0,), "worth"),
            (Piece((("edge", (u(0), u(0))),), (), ()), Piece((("edge", (u(0), u(1))),), (), ()), (0,), "worth"),
            # one-to-one over all rows together
            (Piece((("edge", (u(0), u(1))), ("edge", (u(2), u(3)))), (), ()),
             Piece((("edge", (u(0), u(1))), ("edge", (u(1), u(2)))), (), ()), (0, 1), "worth"),
            (Piece((("t", (u(0),)),), (), ()), Piece((("t", (u(0), u(1))),), (), ()), (0,), "worth"),
            (Piece((), (), (A,)), Piece((), (), (A,)), (), None),
            (Piece((), (), (A,)), Piece((), (), (B,)), (), "shown"),
            (Piece((("on", ()), ("on", ())), (), ()), Piece((("on", ()), ("on", ())), (), ()), (1, 0), None),
        ):
            with self.subTest(places=places, mate=mate.rows):
                self.assertEqual(renaming_fault(mine, mate, places), due)

    def test_the_map_goes_on_in_what_is_shown(self):
        one = Piece((("edge", (u(0), u(1))), ("edge", (u(2), u(3)))), ("text",) * 4, (u(0), u(3)))
        self.assertEqual(renaming_fault(one, one, (0, 1)), None)
        self.assertEqual(renaming_fault(one, one, (1, 0)), "shown")
        turned = Piece(one.rows, one.kinds, (u(2), u(1)))
        self.assertEqual(renaming_fault(one, turned, (1, 0)), None)

    def test_all_in_order(self):
        free = Piece((("edge", (u(0), u(1))), ("edge", (u(2), u(3))), ("edge", (u(4), u(5)))), ("text",) * 6, ())
        self.assertEqual(list(renamings_of(free, free)), list(itertools.permutations(range(3))))
        self.assertEqual(renaming_of(free, free), (0, 1, 2))
        self.assertEqual(list(renamings_of(CHAIN, TURNED)), [(1, 0)])
        self.assertEqual(renaming_of(CHAIN, TURNED), (1, 0))
        self.assertEqual(list(renamings_of(CHAIN, free)), [])
        self.assertIsNone(renaming_of(CHAIN, free))
        nothing = Piece((), (), (A,))
        self.assertEqual(list(renamings_of(nothing, nothing)), [()])
        self.assertEqual(renaming_of(nothing, nothing), ())
        self.assertIsNone(renaming_of(nothing, Piece((), (), (B,))))
        self.assertTrue(inspect.isgeneratorfunction(renamings_of))

    def test_by_chance(self):
        chance = random.Random(291)
        found = 0
        for _ in range(400):
            one = any_piece(chance)
            other = turned_piece(chance, one) if chance.random() < 0.7 else any_piece(chance)
            tried = [places for places in itertools.permutations(range(len(other.rows)))
                     if renaming_fault(one, other, places) is None]
            self.assertEqual(list(renamings_of(one, other)), tried)
            self.assertEqual(renaming_of(one, other), tried[0] if tried else None)
            self.assertEqual([places for places in itertools.permutations(range(len(other.rows)))
                              if can_rename(one, other, places)], tried)
            found += len(tried)
        self.assertGreater(found, 250)


def can_rename(one, other, places):
    """Whether a one-to-one map of unknowns makes each row of one that of other, all maps being tried."""
    if len(one.rows) != len(other.rows) or [row[0] for row in one.rows] != [other.rows[place][0] for place in places]:
        return False
    worths = [worth for _, row in one.rows for worth in row] + list(one.shown)
    mates = [worth for place in places for worth in other.rows[place][1]] + list(other.shown)
    if len(worths) != len(mates):
        return False
    there = set(zip(worths, mates))
    return (len({worth for worth, _ in there}) == len(there) == len({mate for _, mate in there})
            and all((worth[0] == "unknown") == (mate[0] == "unknown") for worth, mate in there)
            and all(worth == mate for worth, mate in there if worth[0] != "unknown"))


def any_piece(chance, most=4):
    columns = {"edge": ("text", "text"), "mark": ("text", "int"), "on": ()}
    names, rows = {}, []
    pool = {"text": ["u", "v", "w", "x", A, B], "int": ["m", "n", ZERO]}
    kinds = []
    for _ in range(chance.randrange(most + 1)):
        table = chance.choice(("edge", "edge", "edge", "mark", "on"))
        worths = []
        for kind in columns[table]:
            worth = chance.choice(pool[kind])
            if isinstance(worth, str) and worth not in names:
                names[worth] = u(len(kinds))
                kinds.append(kind)
            worths.append(names.get(worth, worth) if isinstance(worth, str) else worth)
        rows.append((table, tuple(worths)))
    shown = [chance.choice([*names.values(), A, B]) for _ in range(chance.randrange(3))]
    return Piece(tuple(rows), tuple(kinds), tuple(shown))


def turned_piece(chance, piece):
    """The piece with its rows in another order."""
    order = list(range(len(piece.rows)))
    chance.shuffle(order)
    return in_order(piece, order)


def in_order(piece, order):
    names = {}
    for at in order:
        for worth in piece.rows[at][1]:
            if worth[0] == "unknown":
                names.setdefault(worth, u(len(names)))
    kinds = {names[u(number)]: kind for number, kind in enumerate(piece.kinds)}
    return Piece(tuple((piece.rows[at][0], tuple(names.get(worth, worth) for worth in piece.rows[at][1])) for at in order),
                 tuple(kinds[u(number)] for number in range(len(names))),
                 tuple(names.get(worth, worth) for worth in piece.shown))


class PairOffTest(unittest.TestCase):
    def test_pair_off(self):
        other = Piece((("edge", (u(0), u(1))),), ("text",) * 2, (u(0),))
        for one, two, due in (
            ((), (), ()),
            ((CHAIN,), (TURNED,), (0,)),
            ((CHAIN, other), (other, TURNED), (1, 0)),
            ((CHAIN, CHAIN, other), (TURNED, other, CHAIN), (0, 2, 1)),
            ([CHAIN, CHAIN], [CHAIN, TURNED], (0, 1)),
            ((CHAIN,), (), None),
            ((), (CHAIN,), None),
            ((CHAIN, CHAIN), (CHAIN, other), None),
            ((CHAIN, other), (CHAIN, CHAIN), None),
            ((CHAIN, CHAIN), (CHAIN,), None),
        ):
            self.assertEqual(pair_off(one, two), due)

    def test_by_chance(self):
        chance = random.Random(292)
        paired = 0
        for _ in range(300):
            one = [any_piece(chance, 2) for _ in range(chance.randrange(5))]
            other = [turned_piece(chance, piece) for piece in one]
            chance.shuffle(other)
            if other and chance.random() < 0.4:
                other[0] = any_piece(chance, 2)
            told = pair_off(one, other)
            any_way = any(all(renaming_of(piece, other[at]) is not None for piece, at in zip(one, order))
                          for order in itertools.permutations(range(len(other))))
            self.assertEqual(told is not None, any_way)
            if told is not None:
                paired += 1
                self.assertEqual(sorted(told), list(range(len(other))))
                for at, piece in enumerate(one):
                    free = [number for number in range(len(other)) if number not in told[:at]]
                    self.assertEqual(told[at], next(number for number in free if renaming_of(piece, other[number]) is not None))
        self.assertGreater(paired, 100)


class SpellingTest(unittest.TestCase):
    def test_least_spelling(self):
        self.assertEqual(least_spelling(CHAIN), CHAIN)
        self.assertEqual(least_spelling(TURNED), CHAIN)
        nothing = Piece((), (), (A,))
        self.assertEqual(least_spelling(nothing), nothing)
        piece = Piece((("mark", (u(0), u(1))), ("edge", (u(2), A)), ("edge", (A, u(2)))), ("text", "int", "text"), (u(1), u(2)))
        self.assertEqual(least_spelling(piece), Piece((("edge", (A, u(0))), ("edge", (u(0), A)), ("mark", (u(1), u(2)))),
                                                      ("text", "text", "int"), (u(2), u(0))))
        # what is shown tells which of two orders is the least
        pair = (("edge", (u(0), u(1))), ("edge", (u(2), u(3))))
        self.assertEqual(least_spelling(Piece(pair, ("text",) * 4, (u(2), u(1)))), Piece(pair, ("text",) * 4, (u(0), u(3))))

    def test_by_chance(self):
        chance = random.Random(293)
        for _ in range(400):
            piece = any_piece(chance)
            tried = [in_order(piece, order) for order in itertools.permutations(range(len(piece.rows)))]
            due = min(tried, key=lambda made: (made.rows, made.shown))
            self.assertEqual(least_spelling(piece), due)
            self.assertEqual(least_spelling(turned_piece(chance, piece)), due)
            self.assertIsNotNone(renaming_of(piece, due))
            other = any_piece(chance, 2)
            self.assertEqual(least_spelling(other) == due, renaming_of(piece, other) is not None)

    def test_wide_pieces(self):
        alike = Piece((("edge", (u(0), u(0))),) * 40, ("text",), (u(0),))
        self.assertEqual(least_spelling(alike), alike)
        rows = tuple(("edge", (u(row), u(row + 1))) for row in range(30))
        chain = Piece(rows, ("text",) * 31, (u(0),))
        turned = in_order(chain, list(reversed(range(30))))
        self.assertEqual(least_spelling(turned), least_spelling(chain))


class StandardTest(unittest.TestCase):
    def test_standard_asking(self):
        for text, due in (
            ("(as (none) (list int))", "(as (none) (list int))"),
            ("(where (equal 1 2) (one (record a 1 b \"x\")))", "(as (none) (list (record a int b text)))"),
            ("(one 3)", "(one 3)"),
            ("(join (one 4) (join (one 3) (one 4)))", "(join (one 3) (join (one 4) (one 4)))"),
            ("(table edge)", "(for r0 (table edge) (one (record a (field r0 a) b (field r0 b))))"),
            ("(for x (table edge) (for y (table edge) (where (equal (field y b) (field x a)) (one (record p (field y a) q (field x b))))))",
             "(for r0 (table edge) (for r1 (table edge) (where (equal (field r1 a) (field r0 b)) (one (record p (field r0 a)"
             " q (field r1 b))))))"),
            ("(for m (table mark) (for e (table edge) (where (and (equal (field m at) (field e a)) (and (equal (field e a) \"a\")"
             " (equal (field m n) 7))) (one (field m n)))))",
             "(for r0 (table edge) (for r1 (table mark) (where (equal (field r0 a) \"a\") (where (equal (field r1 at) \"a\")"
             " (where (equal (field r1 n) 7) (one 7))))))"),
            ("(for a (table on) (for b (table on) (one (record))))", "(for r0 (table on) (for r1 (table on) (one (record))))"),
            ("(for e (table edge) (where (equal (field e b) (field e a)) (one (field e b))))",
             "(for r0 (table edge) (where (equal (field r0 b) (field r0 a)) (one (field r0 a))))"),
        ):
            with self.subTest(text=text):
                self.assertEqual(term_text(standard_asking(plain(text))), due)

    def test_it_says_the_same(self):
        chance = random.Random(294)
        spelled = 0
        for _ in range(200):
            program = any_plain_program(chance)
            asking = standard_asking(program)
            try:
                standard = Program(program.heads, (), asking)
            except BadTerm:
                continue
            spelled += 1
            self.assertEqual(check_term(asking), asking)
            self.assertEqual(standard.kind, program.kind)
            self.assertEqual(standard_asking(standard), asking)
            self.assertTrue(are_alike(program, standard))
            least = sorted((least_spelling(piece) for piece in pieces_of(program)), key=lambda piece: (piece.rows, piece.shown))
            self.assertEqual(list(pieces_of(standard)), least)
        self.assertGreater(spelled, 150)

    def test_alike_exactly_if_the_standard_askings_are_equal(self):
        chance = random.Random(295)
        alike = 0
        for _ in range(300):
            kind = chance.choice(KINDS[:3])
            one, other = any_plain_program(chance, kind, 1), any_plain_program(chance, kind, 1)
            self.assertEqual(are_alike(one, other), standard_asking(one) == standard_asking(other))
            alike += are_alike(one, other)
        self.assertGreater(alike, 20)

    def test_large_ones_are_told_too(self):
        part = "(for a (table edge) (for b (table edge) (for c (table edge) (for d (table edge) (one (record))))))"
        text = part
        for _ in range(3):
            text = f"(join {part} {text})"
        self.assertEqual(term_text(standard_asking(plain(text))).count("(for r3"), 4)


class RewritingTest(unittest.TestCase):
    def test_chains_leave_the_pieces(self):
        chance = random.Random(296)
        led = 0
        for _ in range(60):
            program = any_plain_program(chance)
            due = pieces_of(program)
            self.assertEqual(pieces_of(without_definitions(program)), due)
            try:
                self.assertEqual(pieces_of(settled_program(program)), due)
            except BadChain:
                pass
            steps = list(on_steps(program))
            for step in chance.sample(steps, min(5, len(steps))):
                if judge_chain(program, [step]) is None:
                    self.assertEqual(pieces_of(led_by(program, [step])), due)
                    led += 1
        self.assertGreater(led, 60)


if __name__ == "__main__":
    unittest.main()
