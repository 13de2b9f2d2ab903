"""[9.5] to [9.7]."""

import random
import unittest

from listasks.families import family_fault, gathered, settled_tree
from listasks.forms import tree_of_form
from listasks.kinds import list_places
from listasks.members import FlatQuestion, Member
from listasks.shredding import shred
from listasks.texts import kind_of
from listasks.trees import NONE, leaf_of, rebuilt, tree_fault
from listasks.words import read_form
from tests.flatref import cut, settled, up, whole_tree
from tests.helping import nested, refusal
from tests.making_trees import KINDS, any_canonical, any_cell
from tests.treesref import canonical, is_canonical

A, B, C, D = [("column", 0, name) for name in "abcd"]
ROWS = [("row", number) for number in range(4)]
PARTS = [("part", number) for number in range(4)]
INTS = ("list", "int")
NESTED = ("list", ("list", "int"))
ONE = (("number", 1),)


def tree_of(text):
    return tree_of_form(read_form(text))


def family(*lots):
    """Questions for a list, and for the lists within it, all in a row of lists, with these members."""
    return tuple(FlatQuestion(("*",) * depth, tuple(Member(*parts) for parts in lot)) for depth, lot in enumerate(lots))


# Trees over t (a, b) and u, and what they are settled.
SETTLED = (
    ("(none)", "(none)"),
    ("(leaf (tests (column 0 a)) 1)", "(leaf (tests (column 0 a)) 1)"),
    ("(for t (leaf (tests (column 0 a)) (list (leaf (tests (column 0 a)) 1))))",
     "(for t (leaf (tests (column 0 a)) (list (leaf (tests) 1))))"),
    ("(for t (leaf (tests (column 0 a)) (list (leaf (tests (column 0 a) (column 0 b)) 1))))",
     "(for t (leaf (tests (column 0 a)) (list (leaf (tests (column 0 b)) 1))))"),
    # tests of parts beside are no tests around
    ("(parts (leaf (tests (column 0 a)) (list (none))) (leaf (tests) (list (leaf (tests (column 0 a)) 1))))",
     "(parts (leaf (tests (column 0 a)) (list (none))) (leaf (tests) (list (leaf (tests (column 0 a)) 1))))"),
    ("(leaf (tests) (list (parts (leaf (tests (column 0 a)) 1) (leaf (tests (column 0 a)) 2))))",
     "(leaf (tests) (list (parts (leaf (tests (column 0 a)) 1) (leaf (tests (column 0 a)) 2))))"),
    # at any depth, also if the list between has it no more
    ("(leaf (tests (column 0 a)) (list (leaf (tests (column 0 a)) (list (leaf (tests (column 0 a)) 1)))))",
     "(leaf (tests (column 0 a)) (list (leaf (tests) (list (leaf (tests) 1)))))"),
    ("(leaf (tests (column 0 a)) (list (leaf (tests) (list (leaf (tests (column 0 a)) 1)))))",
     "(leaf (tests (column 0 a)) (list (leaf (tests) (list (leaf (tests) 1)))))"),
    ("(leaf (tests) (list (leaf (tests (column 0 a)) (list (leaf (tests (column 0 a)) 1)))))",
     "(leaf (tests) (list (leaf (tests (column 0 a)) (list (leaf (tests) 1)))))"),
    # within records, beneath fors and parts
    ("(for t (leaf (tests (column 0 a)) (record x 1 y (record z (list (for u (parts (leaf (tests (column 0 a)) 1)"
     " (leaf (tests (column 1 a)) 2))))))))",
     "(for t (leaf (tests (column 0 a)) (record x 1 y (record z (list (for u (parts (leaf (tests) 1)"
     " (leaf (tests (column 1 a)) 2))))))))"),
    # moved to its depth: what counts u within the test has row 1 there
    ("(for t (leaf (tests (empty (for u (leaf (tests (column 1 c)) (record))))) (list (for u"
     " (leaf (tests (empty (for u (leaf (tests (column 2 c)) (record))))) 1)))))",
     "(for t (leaf (tests (empty (for u (leaf (tests (column 1 c)) (record))))) (list (for u (leaf (tests) 1)))))"),
    ("(for t (leaf (tests (empty (for u (leaf (tests (column 1 c)) (record))))) (list (for u"
     " (leaf (tests (empty (for u (leaf (tests (column 1 c)) (record))))) 1)))))",
     "(for t (leaf (tests (empty (for u (leaf (tests (column 1 c)) (record))))) (list (for u"
     " (leaf (tests (empty (for u (leaf (tests (column 1 c)) (record))))) 1)))))"),
    # trees within cells stay
    ("(for t (leaf (tests (column 0 a)) (count (leaf (tests (column 0 a)) (record)))))",
     "(for t (leaf (tests (column 0 a)) (count (leaf (tests (column 0 a)) (record)))))"),
    ("(for t (leaf (tests (column 0 a)) (list (leaf (tests (column 0 a) (empty (leaf (tests (column 0 a)) (record))))"
     " (count (leaf (tests (column 0 a)) (record)))))))",
     "(for t (leaf (tests (column 0 a)) (list (leaf (tests (empty (leaf (tests (column 0 a)) (record))))"
     " (count (leaf (tests (column 0 a)) (record)))))))"),
)


class SettledTest(unittest.TestCase):
    def test_settled_trees(self):
        for text, due in SETTLED:
            with self.subTest(text=text):
                self.assertEqual(settled_tree(tree_of(text)), tree_of(due))
                self.assertEqual(settled_tree(tree_of(due)), tree_of(due))

    def test_by_chance(self):
        chance = random.Random(95)
        changed = 0
        for _ in range(300):
            kind = ("list", chance.choice(KINDS[4:]))
            tree = more_tests(chance, any_canonical(chance, kind[1], deep=5))
            done = settled_tree(tree)
            changed += done != tree
            self.assertEqual(done, settled(tree))
            self.assertIsNone(tree_fault(done))
            self.assertEqual(settled_tree(done), done)
            self.assertEqual(shred(done, kind), shred(tree, kind))
            other = more_tests(chance, tree)
            self.assertEqual(shred(other, kind) == shred(tree, kind), settled_tree(other) == done)
        self.assertGreater(changed, 50)


def more_tests(chance, tree, around=(), stood=0, depth=0):
    """The tree with some tests put in again that stand around, and some new ones."""
    if tree[0] == "for":
        return ("for", tree[1], more_tests(chance, tree[2], around, stood, depth + 1))
    if tree[0] == "parts":
        return ("parts", tuple(more_tests(chance, part, around, stood, depth) for part in tree[1]))
    if tree[0] == "none":
        return tree
    here = up(around, stood, depth)
    new = [canonical(any_cell(chance, "truth", (), 3))] if chance.random() < 0.2 else []
    new = [test for test in new if test[0] not in ("truth", "and")]
    _, tests, _ = leaf_of([test for test in here if chance.random() < 0.5] + new + list(tree[1]), tree[2])
    more = tuple(here) + tests
    return ("leaf", tests, more_in_thing(chance, tree[2], more, depth))


def more_in_thing(chance, thing, around, depth):
    if thing[0] == "record":
        return ("record", tuple((label, more_in_thing(chance, part, around, depth)) for label, part in thing[1]))
    return ("list", more_tests(chance, thing[1], around, depth, depth)) if thing[0] == "list" else thing


class GatheredTest(unittest.TestCase):
    def test_the_example(self):
        tree = tree_of("(for dept (leaf (tests) (record a (column 0 name) b (list (for emp (leaf"
                       " (tests (equal (column 1 dept) (column 0 name))) (column 1 who)))))))")
        kind = kind_of("(list (record a text b (list text)))")
        questions = shred(tree, kind)
        self.assertEqual(questions[1].members[0], Member(
            ("dept", "emp"), (("equal", ("column", 1, "dept"), ("column", 0, "name")),), (("row", 0),), (("row", 1),),
            (("column", 1, "who"),)))
        self.assertEqual(gathered(kind, questions), tree)
        passed = list(questions)
        self.assertEqual(gathered(kind, passed), tree)
        self.assertEqual(tuple(passed), questions)

    def test_none(self):
        for text in ("(list int)", "(list (record a (list (list int)) b (list text)))"):
            kind = kind_of(text)
            empty = tuple(FlatQuestion(place, ()) for place in list_places(kind))
            self.assertIsNone(family_fault(kind, empty))
            self.assertEqual(gathered(kind, empty), NONE)

    def test_there_and_back_by_chance(self):
        chance = random.Random(97)
        for _ in range(300):
            kind = ("list", chance.choice(KINDS))
            tree = more_tests(chance, any_canonical(chance, kind[1], deep=5))
            questions = shred(tree, kind)
            self.assertIsNone(family_fault(kind, questions))
            self.assertEqual(gathered(kind, questions), settled_tree(tree))
            self.assertEqual(shred(gathered(kind, questions), kind), questions)

    def test_deep_families(self):
        tree = nested(2000, lambda part: ("for", "t", part), ("parts", (leaf_of((), ("number", 1)), leaf_of((), ("number", 2)))))
        questions = shred(tree, INTS)
        again = gathered(INTS, questions)
        for _ in range(2000):
            _, _, again = again
        self.assertEqual(again, tree_of("(parts (leaf (tests) 1) (leaf (tests) 2))"))


# A list with two leaves; in the thing of one of them stands a list with two leaves, in that of the other a list with one.
INNER = (
    [(("t",), (A,), (), (PARTS[0], ROWS[0]), ()), ((), (), (), (PARTS[1],), ())],
    [(("t",), (A, B), (PARTS[0], ROWS[0]), (PARTS[0],), ONE), (("t", "u"), (A,), (PARTS[0], ROWS[0]), (PARTS[1], ROWS[1]), ONE),
     (("u",), (C,), (PARTS[1],), (ROWS[0],), ONE)],
)
# Good families of lists of ints and of lists of lists of ints: the members of each of their questions.
GOOD = (
    ([],),
    ([((), (), (), (), ONE)],),
    ([(("t",), (A, B), (), (ROWS[0],), ONE)],),
    ([(("t",), (), (), (PARTS[0], ROWS[0]), ONE), (("u",), (A,), (), (PARTS[1], ROWS[0]), ONE)],),
    ([((), (), (), (PARTS[0],), ONE), ((), (), (), (PARTS[1],), ONE), ((), (), (), (PARTS[2],), ONE)],),
    ([(("t",), (), (), (ROWS[0], PARTS[0]), ONE), (("t", "t"), (), (), (ROWS[0], PARTS[1], ROWS[1]), ONE)],),
    ([(("t",), (), (), (PARTS[0], ROWS[0], PARTS[0]), ONE), (("t",), (), (), (PARTS[0], ROWS[0], PARTS[1]), ONE),
      ((), (), (), (PARTS[1],), ONE)],),
    ([(("t", "t"), (), (), (PARTS[0], ROWS[0], ROWS[1], PARTS[0]), ONE), (("t", "t"), (), (), (PARTS[0], ROWS[0], ROWS[1], PARTS[1]), ONE),
      (("t",), (), (), (PARTS[1], ROWS[0], PARTS[0]), ONE), (("t",), (), (), (PARTS[1], ROWS[0], PARTS[1]), ONE)],),
    ([((), (), (), (), ())], []),
    ([((), (), (), (), ())], [((), (), (), (), ONE)]),
    INNER,
    ([(("t",), (A,), (), (PARTS[0], ROWS[0]), ()), ((), (), (), (PARTS[1],), ())], [(("u",), (C,), (PARTS[1],), (ROWS[0],), ONE)]),
)
TRUE_TEST, FALSE_TEST = ("truth", True), ("truth", False)
# Lists of ints: members that are one change away from good ones.
FLAT_FAULTS = (
    # rows
    ([(("t",), (), (), (), ONE)], (0, 0, "rows")),
    ([((), (), (), (ROWS[0],), ONE)], (0, 0, "rows")),
    ([(("t",), (), (), (ROWS[1],), ONE)], (0, 0, "rows")),
    ([(("t", "t"), (), (), (ROWS[1], ROWS[0]), ONE)], (0, 0, "rows")),
    ([(("t", "t"), (), (), (ROWS[0], ROWS[0]), ONE)], (0, 0, "rows")),
    ([(("t", "t"), (), (), (ROWS[0],), ONE)], (0, 0, "rows")),
    ([(("t",), (), (), (PARTS[0], ROWS[0]), ONE), (("t",), (), (), (PARTS[1],), ONE)], (0, 1, "rows")),
    ([(("t",), (B, A), (PARTS[0],), (ROWS[1],), ())], (0, 0, "rows")),
    # tests
    ([(("t",), (B, A), (), (ROWS[0],), ONE)], (0, 0, "tests")),
    ([(("t",), (A, A), (), (ROWS[0],), ONE)], (0, 0, "tests")),
    ([(("t",), (("and", A, B),), (), (ROWS[0],), ONE)], (0, 0, "tests")),
    ([(("t",), (A, TRUE_TEST), (), (ROWS[0],), ONE)], (0, 0, "tests")),
    ([(("t",), (TRUE_TEST,), (), (ROWS[0],), ONE)], (0, 0, "tests")),
    ([(("t",), (FALSE_TEST,), (), (ROWS[0],), ONE)], (0, 0, "tests")),
    ([(("t",), (A, FALSE_TEST), (), (ROWS[0],), ONE)], (0, 0, "tests")),
    ([(("t",), (B, A), (PARTS[0],), (ROWS[0],), ())], (0, 0, "tests")),
    # orphan
    ([(("t",), (), (ROWS[0],), (), ONE)], (0, 0, "orphan")),
    ([((), (), (PARTS[0],), (), ())], (0, 0, "orphan")),
    # cells
    ([((), (), (), (), ())], (0, 0, "cells")),
    ([((), (), (), (), ONE + ONE)], (0, 0, "cells")),
    ([((), (), (), (PARTS[0],), ONE), ((), (), (), (PARTS[0],), ())], (0, 1, "cells")),
    # keys
    ([((), (), (), (), ONE), ((), (), (), (), ONE)], (0, -1, "keys")),
    ([((), (), (), (PARTS[0],), ONE)], (0, -1, "keys")),
    ([((), (), (), (PARTS[1],), ONE)], (0, -1, "keys")),
    ([((), (), (), (PARTS[0],), ONE), ((), (), (), (PARTS[0],), ONE)], (0, -1, "keys")),
    ([((), (), (), (PARTS[1],), ONE), ((), (), (), (PARTS[2],), ONE)], (0, -1, "keys")),
    ([((), (), (), (PARTS[0],), ONE), ((), (), (), (PARTS[2],), ONE)], (0, -1, "keys")),
    ([((), (), (), (PARTS[1],), ONE), ((), (), (), (PARTS[0],), ONE)], (0, -1, "keys")),
    ([((), (), (), (PARTS[0],), ONE), ((), (), (), (PARTS[1],), ONE), ((), (), (), (PARTS[1],), ONE)], (0, -1, "keys")),
    ([((), (), (), (PARTS[0],), ONE), ((), (), (), (PARTS[1],), ONE), ((), (), (), (PARTS[0],), ONE)], (0, -1, "keys")),
    ([((), (), (), (PARTS[0],), ONE), (("t",), (), (), (ROWS[0],), ONE)], (0, -1, "keys")),
    ([(("t",), (), (), (ROWS[0],), ONE), ((), (), (), (PARTS[1],), ONE)], (0, -1, "keys")),
    ([((), (), (), (), ONE), (("t",), (), (), (ROWS[0],), ONE)], (0, -1, "keys")),
    ([(("t",), (), (), (ROWS[0],), ONE), ((), (), (), (), ONE)], (0, -1, "keys")),
    ([(("t",), (), (), (ROWS[0],), ONE), (("t",), (), (), (ROWS[0],), ONE)], (0, -1, "keys")),
    ([(("t",), (), (), (ROWS[0], PARTS[0]), ONE), (("u",), (), (), (ROWS[0], PARTS[1]), ONE)], (0, -1, "keys")),
    ([(("t",), (), (), (ROWS[0],), ONE), (("t",), (), (), (ROWS[0], PARTS[0]), ONE)], (0, -1, "keys")),
    ([((), (), (), (PARTS[0],), ONE), ((), (), (), (PARTS[1], PARTS[0]), ONE), ((), (), (), (PARTS[1], PARTS[1]), ONE)],
     (0, -1, "keys")),
    ([((), (), (), (PARTS[0], PARTS[0]), ONE), ((), (), (), (PARTS[0], PARTS[1]), ONE), ((), (), (), (PARTS[1],), ONE)],
     (0, -1, "keys")),
    ([(("t",), (), (), (ROWS[0], PARTS[0]), ONE)], (0, -1, "keys")),
)
# Lists of lists: what stands in the place of the good family INNER.
DEEP_FAULTS = (
    (1, 0, {"outer": (PARTS[0],)}, "rows"),
    (1, 0, {"tables": ("t", "t")}, "rows"),
    (1, 1, {"own": (PARTS[1], ROWS[0])}, "rows"),
    (1, 0, {"tests": (B, A)}, "tests"),
    (1, 0, {"tests": (A, FALSE_TEST)}, "tests"),
    # no member around has this outer
    (1, 0, {"outer": (PARTS[1], ROWS[0])}, "orphan"),
    (1, 2, {"outer": (PARTS[2],)}, "orphan"),
    (1, 2, {"outer": ()}, "orphan"),
    (1, 2, {"outer": (PARTS[1], ROWS[0]), "own": ()}, "orphan"),
    # the tables do not begin with those around
    (1, 0, {"tables": ("u",)}, "orphan"),
    (1, 1, {"tables": ("u", "t")}, "orphan"),
    # a test around is missing
    (1, 0, {"tests": (B,)}, "orphan"),
    (1, 1, {"tests": ()}, "orphan"),
    (0, 0, {"tests": (A, C)}, None),
    (0, 1, {"outer": (PARTS[1],), "own": ()}, "orphan"),
    (1, 0, {"cells": ()}, "cells"),
    (1, 2, {"cells": ONE + ONE}, "cells"),
    (0, 0, {"cells": ONE}, "cells"),
    # several of them
    (1, 0, {"outer": (PARTS[0],), "tests": (B, A), "cells": ()}, "rows"),
    (1, 0, {"tests": (B, B), "tables": ("u",), "cells": ()}, "tests"),
    (1, 0, {"tests": (B,), "cells": ()}, "orphan"),
)


def with_change(questions, place, number, change):
    """The questions with other attributes of one member."""
    members = list(questions[place].members)
    old = members[number]
    attributes = {"tables": old.tables, "tests": old.tests, "outer": old.outer, "own": old.own, "cells": old.cells}
    members[number] = Member(**{**attributes, **change})
    changed = list(questions)
    changed[place] = FlatQuestion(questions[place].place, tuple(members))
    return tuple(changed)


def with_members(questions, place, members):
    return questions[:place] + (FlatQuestion(questions[place].place, tuple(members)),) + questions[place + 1:]


class FamilyFaultTest(unittest.TestCase):
    def check(self, kind, questions, fault):
        passed = list(questions)
        self.assertEqual(family_fault(kind, questions), fault)
        self.assertEqual(family_fault(kind, passed), fault)
        self.assertEqual(tuple(passed), questions)
        if fault is None:
            self.assertEqual(shred(gathered(kind, questions), kind), questions)
        else:
            self.assertEqual(refusal(gathered, kind, questions), ("BadFamily", *fault))

    def test_good_families(self):
        for lots in GOOD:
            kind = INTS if len(lots) == 1 else NESTED
            self.check(kind, family(*lots), None)

    def test_faults_of_flat_lists(self):
        for members, fault in FLAT_FAULTS:
            with self.subTest(members=members):
                self.check(INTS, family(members), fault)

    def test_faults_of_nested_lists(self):
        questions = family(*INNER)
        for place, number, change, word in DEEP_FAULTS:
            with self.subTest(place=place, number=number, change=change):
                fault = (1, 0, "orphan") if word is None else (place, number, word)
                self.check(NESTED, with_change(questions, place, number, change), fault)

    def test_many_and_place(self):
        questions = family(*INNER)
        self.check(NESTED, (), (0, -1, "many"))
        self.check(NESTED, questions[:1], (0, -1, "many"))
        self.check(NESTED, questions + questions[:1], (0, -1, "many"))
        self.check(INTS, questions, (0, -1, "many"))
        self.check(NESTED, questions[::-1], (0, -1, "place"))
        self.check(NESTED, (questions[0], FlatQuestion(("*", "a"), ())), (1, -1, "place"))
        self.check(NESTED, (questions[0], FlatQuestion(("*", "a"), (Member((), (), (), (ROWS[0],), ()),))), (1, -1, "place"))
        bad = with_change(questions, 0, 0, {"cells": ONE})
        self.check(NESTED, (bad[0], FlatQuestion(("*", "a"), ())), (0, 0, "cells"))
        self.check(NESTED, (bad[0],), (0, -1, "many"))

    def test_order(self):
        questions = family(*INNER)
        first, second, third = questions[1].members
        self.check(NESTED, with_members(questions, 1, (third, first, second)), (1, -1, "order"))
        self.check(NESTED, with_members(questions, 1, (first, third, second)), (1, -1, "order"))
        self.check(NESTED, with_members(questions, 1, (second, first, third)), (1, -1, "keys"))
        # order is asked ahead of keys, and behind what is wrong with the members
        self.check(NESTED, with_members(questions, 1, (third, second, first)), (1, -1, "order"))
        self.check(NESTED, with_change(with_members(questions, 1, (third, second, first)), 1, 2, {"cells": ()}), (1, 2, "cells"))

    def test_keys_are_asked_for_each_outer(self):
        questions = family(*INNER)
        first, second, third = questions[1].members
        self.check(NESTED, with_members(questions, 1, (first, third)), (1, -1, "keys"))
        self.check(NESTED, with_members(questions, 1, (first, second)), None)
        self.check(NESTED, with_members(questions, 1, (first, second, third, third)), (1, -1, "keys"))
        # own tables are those behind the ones around, own rows the ones behind theirs
        outer = [(("t",), (), (), (ROWS[0],), ())]
        for tables, fault in ((("t", "t"), (1, -1, "keys")), (("t", "u"), None)):
            inner = [(("t", "u"), (), (ROWS[0],), (ROWS[1], PARTS[0]), ONE), (tables, (), (ROWS[0],), (ROWS[1], PARTS[1]), ONE)]
            self.check(NESTED, family(outer, inner), fault)

    def test_a_test_around_is_moved(self):
        def test_at(depth):
            return ("empty", ("for", "u", ("leaf", (("column", depth, "c"),), ("record", ()))))

        outer = [(("t",), (test_at(1),), (), (ROWS[0],), ())]
        for depth, fault in ((1, (1, 0, "orphan")), (2, None), (3, (1, 0, "orphan"))):
            self.check(NESTED, family(outer, [(("t", "u"), (test_at(depth),), (ROWS[0],), (ROWS[1],), ONE)]), fault)

    def test_what_stands_within_tests_and_cells_is_not_looked_at(self):
        odd = ("plus", ("truth", True), ("column", 99, "a"))
        self.check(INTS, family([((), (odd,), (), (), (odd,))]), None)

    def test_places_beside_each_other(self):
        kind = kind_of("(list (record a (list int) b (list (record c (list text) d int))))")
        tree = tree_of("(for t (leaf (tests) (record a (list (leaf (tests) 1)) b (list (for u (leaf (tests)"
                       " (record c (list (leaf (tests) \"x\")) d 5)))))))")
        questions = shred(tree, kind)
        self.check(kind, questions, None)
        self.check(kind, with_change(questions, 3, 0, {"outer": (ROWS[0],), "own": (ROWS[1],)}), (3, 0, "orphan"))
        self.check(kind, with_change(questions, 2, 0, {"cells": ()}), (2, 0, "cells"))
        self.check(kind, with_members(questions, 2, ()), (3, 0, "orphan"))
        self.check(kind, with_members(with_members(questions, 2, ()), 3, ()), None)

    def test_changed_families_by_chance(self):
        chance = random.Random(96)
        good = 0
        for _ in range(1500):
            kind = ("list", chance.choice(KINDS[2:]))
            questions = shred(more_tests(chance, any_canonical(chance, kind[1], deep=4)), kind)
            changed = any_change(chance, questions)
            fault = family_fault(kind, changed)
            told = [(each.place, [(one.tables, one.tests, one.outer, one.own, one.cells) for one in each]) for each in changed]
            self.assertEqual(fault is None, is_family(kind, told), (changed, fault))
            good += fault is None and changed != questions
            if fault is None:
                self.assertEqual(shred(gathered(kind, changed), kind), changed)
            else:
                self.assertEqual(refusal(gathered, kind, changed), ("BadFamily", *fault))
        self.assertGreater(good, 20)


def is_family(kind, told):
    """Whether questions are those of a tree, told by putting one together and cutting it."""
    try:
        tree = whole_tree(kind, told)
        return is_canonical(tree) and rebuilt(tree) == tree and cut(tree, kind) == told
    except (ValueError, KeyError, IndexError, TypeError):
        return False


def any_change(chance, questions):
    """The questions with one small change."""
    place = chance.choice([number for number in range(len(questions)) if questions[number].members] or [0])
    members = list(questions[place].members)
    pick = chance.randrange(8)
    if pick == 0 or not members:
        return questions[:-1] if chance.random() < 0.3 else with_members(questions, place, members[:-1])
    number = chance.randrange(len(members))
    one = members[number]
    if pick == 1:
        return with_members(questions, place, members + [one])
    if pick == 2:
        chance.shuffle(members)
        return with_members(questions, place, members)
    if pick == 3:
        del members[number]
        return with_members(questions, place, members)
    if pick == 4:
        tests = list(one.tests) + [chance.choice((A, B, FALSE_TEST))]
        return with_change(questions, place, number, {"tests": tuple(sorted(tests, key=repr))})
    if pick == 5:
        return with_change(questions, place, number, {"tests": one.tests[1:]} if one.tests else {"cells": one.cells[1:]})
    if pick == 6:
        tables = tuple(chance.choice(("dept", "emp")) for _ in one.tables)
        return with_change(questions, place, number, {"tables": tables})
    name = chance.choice(("outer", "own"))
    items = list(getattr(one, name))
    if items and chance.random() < 0.7:
        items[chance.randrange(len(items))] = (chance.choice(("row", "part")), chance.randrange(3))
    else:
        items.insert(chance.randrange(len(items) + 1), ("part", chance.randrange(2)))
    return with_change(questions, place, number, {name: tuple(items)})


if __name__ == "__main__":
    unittest.main()
