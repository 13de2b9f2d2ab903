"""[13.1] to [13.7]."""

import random
import unittest

from listasks.compiling import answers_of, questions_of
from listasks.kinds import ask_count, list_places
from listasks.stitching import (
    around_of,
    ids_fault,
    laid_out,
    paired_rows,
    parted_rows,
    stitch,
    thing_at,
    with_keys,
)
from listasks.programs import Program
from listasks.texts import kind_of, term_of
from tests.helping import listed, nested, refusal
from tests.making_trees import KINDS
from tests.stitchref import any_ids, any_value, arounds, kept_id, laid, whole_value
from tests.test_compiling import ANSWERS, ASKING, STAFF, staff

STAFFED = kind_of("(list (record name text staff (list text)))")
IDS = ([((), 7, ("a",)), ((), 3, ("b",))], [(7, 2, ("ann",)), (7, 1, ("cy",))])
VALUE = [(("name", "b"), ("staff", [])), (("name", "a"), ("staff", ["cy", "ann"]))]
INTS = ("list", "int")
NESTED = ("list", INTS)
RICH = kind_of("(list (record a int b (record c (list (record d text e (list truth))) f truth) g (list (list int))))")
MORE_KINDS = tuple(("list", kind) for kind in KINDS) + (STAFFED, RICH, nested(4, lambda kind: ("list", kind), ("record", ())))


class PlacesTest(unittest.TestCase):
    def test_around_of(self):
        for text, due in (
            ("(list int)", (None,)),
            ("(list (list (list int)))", (None, 0, 1)),
            ("(list (record a (list (record b (list int) c (list int))) d (record e (list text)) f int))", (None, 0, 1, 1, 0)),
        ):
            self.assertEqual(around_of(kind_of(text)), due)
        self.assertEqual(around_of(RICH), (None, 0, 1, 0, 3))

    def test_by_another_way(self):
        for kind in MORE_KINDS:
            self.assertEqual(around_of(kind), arounds(kind))
            self.assertEqual(len(around_of(kind)), ask_count(kind))
        deep = nested(1000, lambda kind: ("list", kind), "int")
        self.assertEqual(around_of(deep), (None, *range(999)))


class WithKeysTest(unittest.TestCase):
    def test_with_keys(self):
        due = ((((), (1,), ("a",)), ((), (2,), ("b",))),
               (((1,), (1, 1), ("ann",)), ((1,), (1, 3), ("cy",)), ((2,), (2, 2), ("bob",))))
        self.assertEqual(with_keys(ANSWERS), due)
        passed = listed(ANSWERS)
        told = with_keys(passed)
        self.assertEqual(told, due)
        self.assertEqual(passed, listed(ANSWERS))
        passed[0][0][2][0] = "x"
        passed[1].clear()
        self.assertEqual(told, due)
        # the order stays
        self.assertEqual(with_keys([[((2,), (0,), ()), ((1,), (), (3,)), ((1,), (0, 4), ())]]),
                         ((((2,), (2, 0), ()), ((1,), (1,), (3,)), ((1,), (1, 0, 4), ())),))
        self.assertEqual(with_keys(()), ())


class FaultTest(unittest.TestCase):
    def test_none(self):
        self.assertIsNone(ids_fault(STAFFED, IDS))
        self.assertIsNone(ids_fault(STAFFED, listed(IDS)))
        self.assertIsNone(ids_fault(STAFFED, ((), ())))
        self.assertIsNone(ids_fault(STAFFED, with_keys(ANSWERS)))
        # keys outside and numbers within, and the other way about; numbers of any sign
        self.assertIsNone(ids_fault(STAFFED, [[((), (3, 0), ("a",))], [([3, 0], -4, ("b",)), ((3, 0), 0, ("c",))]]))
        self.assertIsNone(ids_fault(STAFFED, [[([], -10 ** 40, ("a",))], [(-10 ** 40, (), ("b",)), (-10 ** 40, [0], ("c",))]]))
        # cells of any size
        self.assertIsNone(ids_fault(STAFFED, [[((), 1, ('"' * 100,))], []]))
        self.assertIsNone(ids_fault(INTS, [[((), 1, (-10 ** 99,))]]))
        self.assertIsNone(ids_fault(("list", "truth"), [[((), 1, (True,)), ((), 0, (False,))]]))
        self.assertIsNone(ids_fault(("list", ("record", ())), [[((), 1, ()), ((), 2, [])]]))

    def test_each_word(self):
        good = ((), 5, ("a",))
        for answers, due in (
            (None, (0, -1, "many")),
            ("ab", (0, -1, "many")),
            ({0: (), 1: ()}, (0, -1, "many")),
            ((), (0, -1, "many")),
            (((),), (0, -1, "many")),
            (((), (), ()), (0, -1, "many")),
            ((None, ()), (0, -1, "many")),
            (((), None), (1, -1, "many")),
            ((({},), None), (0, 0, "row")),
            (([good], "ab"), (1, -1, "many")),
            (((good, None), ()), (0, 1, "row")),
            ((("abc",), ()), (0, 0, "row")),
            ((((),), ()), (0, 0, "row")),
            ((((*good, 1),), ()), (0, 0, "row")),
            ((((None, 5, ("a",)),), ()), (0, 0, "row")),
            (((("", 5, ("a",)),), ()), (0, 0, "row")),
            (((((), "5", ("a",)),), ()), (0, 0, "row")),
            (((((), True, ("a",)),), ()), (0, 0, "row")),
            (((((), None, ("a",)),), ()), (0, 0, "row")),
            (((((), (-1,), ("a",)),), ()), (0, 0, "row")),
            (((((), (True,), ("a",)),), ()), (0, 0, "row")),
            (((((), ((1,),), ("a",)),), ()), (0, 0, "row")),
            ((((("x",), 5, ("a",)),), ()), (0, 0, "row")),
            (((((), 5, "a"),), ()), (0, 0, "row")),
            (((((), 5, None),), ()), (0, 0, "row")),
            (((good, ((), (6,), ("a",))), ()), (0, 1, "row")),
            (((((), (6,), ("a",)), good), ()), (0, 1, "row")),
            (((((), [], ("a",)), ((), 0, ("a",))), ()), (0, 1, "row")),
            (((((), 5, ()),), ()), (0, 0, "cells")),
            (((((), 5, ("a", "b")),), ()), (0, 0, "cells")),
            (((((), 5, (1,)),), ()), (0, 0, "cells")),
            (((((), 5, (None,)),), ()), (0, 0, "cells")),
            (((((), 5, (True,)),), ()), (0, 0, "cells")),
            (((((), 5, (("a",),)),), ()), (0, 0, "cells")),
            (((good, ((), 5, (1,))), ()), (0, 1, "cells")),
            (((good, ((), 5, ("b",))), ()), (0, 1, "double")),
            (((((), (5, 1), ("a",)), ((), [5, 1], ("a",))), ()), (0, 1, "double")),
            (((good, ((0,), 5, ("b",))), ()), (0, 1, "double")),
            ((((0, 5, ("a",)),), ()), (0, 0, "orphan")),
            (((((0,), 5, ("a",)),), ()), (0, 0, "orphan")),
            (((good,), (((), 1, ("b",)),)), (1, 0, "orphan")),
            (((good,), ((4, 1, ("b",)),)), (1, 0, "orphan")),
            (((good,), (((5,), 1, ("b",)),)), (1, 0, "orphan")),
            (((((), (5,), ("a",)),), ((5, 1, ("b",)),)), (1, 0, "orphan")),
            (((good,), ((5, 1, ("b",)), (5, 1, ("c",)))), (1, 1, "double")),
            (((good,), ((5, 1, ("b",)), (9, 1, ("c",)))), (1, 1, "double")),
            # the first fault of the first place that has one
            (((good, good), None), (0, 1, "double")),
            (((good,), (None, (5, 1, 7))), (1, 0, "row")),
        ):
            with self.subTest(answers=answers):
                self.assertEqual(ids_fault(STAFFED, answers), due)
                for call in (stitch, lambda *given: thing_at(*given, None, None), lambda *given: paired_rows(*given, 3),
                             lambda *given: parted_rows(*given, None), lambda *given: paired_rows(given[0], IDS, given[1]),
                             lambda *given: parted_rows(given[0], IDS, given[1])):
                    self.assertEqual(refusal(call, STAFFED, answers), ("BadAnswers", *due))

    def test_cells_of_each_base_kind(self):
        for base, good, bad in (("int", (0, -5), (True, "1", None)), ("text", ("", "1"), (1, False)), ("truth", (True, False), (1, 0, ""))):
            for cell in good:
                self.assertIsNone(ids_fault(("list", base), [[((), 1, (cell,))]]))
            for cell in bad:
                self.assertEqual(ids_fault(("list", base), [[((), 1, (cell,))]]), (0, 0, "cells"))
        kind = kind_of("(list (record a int b (record c text d (list int)) e truth))")
        self.assertIsNone(ids_fault(kind, [[((), 1, [3, "x", True])], []]))
        for cells in ([3, "x"], ["x", 3, True], [3, "x", 1], [3, "x", True, True]):
            self.assertEqual(ids_fault(kind, [[((), 1, cells)], []]), (0, 0, "cells"))

    def test_faults_of_one_come_first(self):
        bad, worse = ((), (None,)), ()
        for call in (paired_rows, parted_rows):
            self.assertEqual(refusal(call, STAFFED, bad, worse), ("BadAnswers", 1, 0, "row"))
            self.assertEqual(refusal(call, STAFFED, worse, bad), ("BadAnswers", 0, -1, "many"))

    def test_an_id_of_another_place_is_none(self):
        kind = ("list", NESTED)
        self.assertIsNone(ids_fault(kind, [[((), 1, ())], [(1, 2, ())], [(2, 3, (0,))]]))
        self.assertEqual(ids_fault(kind, [[((), 1, ())], [(1, 2, ())], [(1, 3, (0,))]]), (2, 0, "orphan"))
        # the place around is not the place before
        kind = kind_of("(list (record a (list int) b (list int)))")
        self.assertIsNone(ids_fault(kind, [[((), 1, ())], [(1, 2, (0,))], [(1, 2, (0,))]]))
        self.assertEqual(ids_fault(kind, [[((), 1, ())], [(1, 2, (0,))], [(2, 3, (0,))]]), (2, 0, "orphan"))


class StitchTest(unittest.TestCase):
    def test_the_example(self):
        self.assertEqual(stitch(STAFFED, IDS), VALUE)
        self.assertEqual(stitch(STAFFED, listed(IDS)), VALUE)
        self.assertIsInstance(stitch(STAFFED, IDS), list)

    def test_things_of_each_sort(self):
        for kind, answers, due in (
            (INTS, [()], []),
            (INTS, [[((), 2, (5,)), ((), -1, (6,))]], [6, 5]),
            (INTS, [[((), (1, 0), (5,)), ((), [1], (6,)), ((), (0, 7), (7,)), ((), (10,), (8,))]], [7, 6, 5, 8]),
            (("list", "truth"), [[((), 1, (True,))]], [True]),
            (("list", ("record", ())), [[((), 1, ()), ((), 0, ())]], [(), ()]),
            (NESTED, [[((), 2, ()), ((), 1, ())], [(2, 0, (8,)), (2, -3, (9,))]], [[], [9, 8]]),
            (NESTED, [(), ()], []),
        ):
            self.assertEqual(stitch(kind, answers), due)
        answers = [[((), 4, [1, False])], [(4, 0, ["x"]), (4, 1, ["y"])], [(1, 9, [True]), (1, 8, [False])],
                   [([4], 6, ()), ((4,), 5, ())], [(6, 1, (3,))]]
        answers[0][0] = ((), [4], [1, False])
        answers[1] = [((4,), own, cells) for _, own, cells in answers[1]]
        self.assertEqual(stitch(RICH, answers), [(
            ("a", 1),
            ("b", (("c", [(("d", "x"), ("e", [])), (("d", "y"), ("e", [False, True]))]), ("f", False))),
            ("g", [[], [3]]),
        )])

    def test_lists_are_new_and_no_two_are_one(self):
        answers = [[((), 2, ()), ((), 1, ())], []]
        told = stitch(NESTED, answers)
        told[0].append(1)
        self.assertEqual(told, [[1], []])
        told.append(2)
        self.assertEqual(stitch(NESTED, answers), [[], []])
        self.assertEqual(answers, [[((), 2, ()), ((), 1, ())], []])
        first = thing_at(NESTED, answers, 0, 2)
        first.append(7)
        self.assertEqual(thing_at(NESTED, answers, 0, 2), [])

    def test_by_chance(self):
        chance = random.Random(230)
        for _ in range(400):
            kind = chance.choice(MORE_KINDS)
            value = any_value(chance, kind)
            answers = any_ids(chance, kind, value)
            before = listed(answers)
            self.assertIsNone(ids_fault(kind, answers))
            self.assertEqual(stitch(kind, answers), value)
            self.assertEqual(whole_value(kind, answers), value)
            self.assertEqual(listed(answers), before)

    def test_deep_kinds(self):
        deep = nested(900, lambda kind: ("list", kind), "int")
        answers = [[(place - 1 if place else (), place, (5,) if place == 899 else ())] for place in range(900)]
        value = stitch(deep, answers)
        depth = 0
        while isinstance(value, list):
            value, depth = value[0], depth + 1
        self.assertEqual((value, depth), (5, 900))
        wide = ("list", nested(900, lambda kind: ("record", (("a", kind),)), "int"))
        value = stitch(wide, [[((), 1, (6,))]])[0]
        while value != 6:
            value = value[0][1]
        self.assertEqual(ids_fault(wide, [[((), 1, ("6",))]]), (0, 0, "cells"))


class ThingTest(unittest.TestCase):
    def test_thing_at(self):
        self.assertEqual(thing_at(STAFFED, IDS, 0, 7), VALUE[1])
        self.assertEqual(thing_at(STAFFED, IDS, 0, 3), VALUE[0])
        self.assertEqual(thing_at(STAFFED, IDS, 1, 2), "ann")
        keyed = with_keys(ANSWERS)
        self.assertEqual(thing_at(STAFFED, keyed, 0, (1,)), (("name", "a"), ("staff", ["ann", "cy"])))
        self.assertEqual(thing_at(STAFFED, keyed, 1, [1, 3]), "cy")

    def test_places_and_ids(self):
        for place in (2, -1, True, False, None, "0", (0,)):
            self.assertEqual(refusal(thing_at, STAFFED, IDS, place, 7), ("NoSuchPlace", place))
        for place, own in ((0, 2), (1, 7), (0, (7,)), (0, ()), (1, -1)):
            self.assertEqual(refusal(thing_at, STAFFED, IDS, place, own), ("NoId", place, own))
        self.assertEqual(refusal(thing_at, STAFFED, with_keys(ANSWERS), 0, [7]), ("NoId", 0, (7,)))
        self.assertEqual(refusal(thing_at, INTS, [[((), 1, (5,))]], 0, True), ("NoId", 0, True))
        self.assertEqual(refusal(thing_at, STAFFED, IDS, 9, 99), ("NoSuchPlace", 9))
        self.assertEqual(refusal(thing_at, STAFFED, ((), None), 9, 99), ("BadAnswers", 1, -1, "many"))
        self.assertEqual(thing_at(INTS, [[((), 1, (5,)), ((), 0, (6,))]], 0, 1), 5)

    def test_by_chance(self):
        chance = random.Random(231)
        for _ in range(150):
            kind = chance.choice(MORE_KINDS)
            value = any_value(chance, kind)
            answers = any_ids(chance, kind, value)
            owns = sorted(kept_id(own) for _, own, _ in answers[0])
            self.assertEqual([thing_at(kind, answers, 0, own) for own in owns], value)
            for place, rows in enumerate(answers):
                for _, own, _ in rows:
                    under = [kept_id(own)]
                    thing = thing_at(kind, answers, place, own)
                    if place == 0:
                        self.assertEqual(thing, value[owns.index(under[0])])
                    self.assertEqual(thing_at(kind, answers, place, listed(own)), thing)


class LaidOutTest(unittest.TestCase):
    def test_laid_out(self):
        self.assertEqual(laid_out(STAFFED, VALUE), (
            (((), (0,), ("b",)), ((), (1,), ("a",))),
            (((1,), (0,), ("cy",)), ((1,), (1,), ("ann",))),
        ))
        self.assertEqual(laid_out(NESTED, []), ((), ()))
        self.assertEqual(laid_out(NESTED, [[], [4], [5, 6]]), (
            (((), (0,), ()), ((), (1,), ()), ((), (2,), ())),
            (((1,), (0,), (4,)), ((2,), (0,), (5,)), ((2,), (1,), (6,))),
        ))
        many = laid_out(INTS, list(range(12)))
        self.assertEqual([own for _, own, _ in many[0]], [(at,) for at in range(12)])

    def test_by_chance(self):
        chance = random.Random(232)
        for _ in range(400):
            kind = chance.choice(MORE_KINDS)
            value = any_value(chance, kind)
            answers = laid_out(kind, value)
            self.assertEqual(answers, laid(kind, value))
            for rows in with_keys(answers):
                wholes = [own for _, own, _ in rows]
                self.assertEqual(wholes, sorted(set(wholes)))
            self.assertIsNone(ids_fault(kind, with_keys(answers)))
            self.assertEqual(stitch(kind, with_keys(answers)), value)

    def test_what_is_passed_stays(self):
        value = [[1], []]
        answers = laid_out(NESTED, value)
        self.assertEqual(value, [[1], []])
        value[0].append(2)
        value.clear()
        self.assertEqual(stitch(NESTED, with_keys(answers)), [[1], []])

    def test_answers_of_programs(self):
        program = Program(STAFF, [], term_of(ASKING))
        answers = answers_of(questions_of(program), staff())
        value = stitch(program.kind, with_keys(answers))
        self.assertEqual(value, [(("a", "a"), ("b", ["ann", "cy"])), (("a", "b"), ("b", ["bob"]))])
        self.assertIsNone(parted_rows(program.kind, with_keys(answers), with_keys(laid_out(program.kind, value))))


class PairsTest(unittest.TestCase):
    def test_paired_rows(self):
        keyed = with_keys(laid_out(STAFFED, VALUE))
        due = (((3, (0,)), (7, (1,))), ((1, (1, 0)), (2, (1, 1))))
        self.assertEqual(paired_rows(STAFFED, IDS, keyed), due)
        self.assertEqual(paired_rows(STAFFED, listed(IDS), listed(keyed)), due)
        self.assertEqual(paired_rows(STAFFED, keyed, IDS), tuple(tuple(couple[::-1] for couple in lot) for lot in due))
        self.assertIsNone(parted_rows(STAFFED, IDS, keyed))
        self.assertEqual(paired_rows(STAFFED, ((), ()), ((), ())), ((), ()))
        # at an inner place for each couple of the place around in turn, not by own ids
        one = [[((), 1, ()), ((), 2, ())], [(1, 9, (5,)), (2, 3, (6,)), (2, 4, (7,))]]
        self.assertEqual(paired_rows(NESTED, one, one), (((1, 1), (2, 2)), ((9, 9), (3, 3), (4, 4))))

    def test_parted_rows(self):
        one = [[((), 1, ("a",)), ((), 2, ("b",))], [(1, 1, ("x",)), (2, 2, ("y",)), (2, 3, ("z",))]]
        for other, due in (
            ([[((), 5, ("a",))], [(5, 1, ("x",))]], (0, 2, None, "more")),
            ([[], []], (0, 1, None, "more")),
            ([[((), 5, ("b",))], []], (0, 1, 5, "cells")),
            ([[((), 5, ("a",)), ((), (6), ("b",)), ((), 7, ("a",))], []], (0, None, 7, "fewer")),
            ([[((), 5, ("a",)), ((), 6, ("c",)), ((), 7, ("a",))], []], (0, 2, 6, "cells")),
            # place by place: a difference at place 0 ahead of those within
            ([[((), 5, ("a",)), ((), 6, ("c",))], [(5, 1, ("q",))]], (0, 2, 6, "cells")),
            ([[((), 5, ("a",)), ((), 6, ("b",))], []], (1, 1, None, "more")),
            ([[((), 5, ("a",)), ((), 6, ("b",))], [(5, 1, ("x",)), (6, 2, ("y",))]], (1, 3, None, "more")),
            ([[((), 5, ("a",)), ((), 6, ("b",))], [(5, 1, ("x",)), (5, 4, ("x",)), (6, 2, ("y",))]], (1, None, 4, "fewer")),
            ([[((), 5, ("a",)), ((), 6, ("b",))], [(5, 1, ("x",)), (6, 2, ("w",)), (6, 3, ("z",))]], (1, 2, 2, "cells")),
            ([[((), 5, ("a",)), ((), 6, ("b",))], [(5, 0, ("x",)), (6, 2, ("z",)), (6, 9, ("y",))]], (1, 2, 2, "cells")),
            ([[((), (5,), ["a"]), ((), [6], ["b"])], [([5], [1], ["v"])]], (1, 1, (1,), "cells")),
            ([[((), (5,), ["a"]), ((), [6], ["b"])], [([5], [1], ["x"]), ([5], [1, 1], ["x"])]], (1, None, (1, 1), "fewer")),
        ):
            with self.subTest(other=other):
                self.assertEqual(parted_rows(STAFFED, one, other), due)
                self.assertIsNone(paired_rows(STAFFED, one, other))
                place, own, mate, word = due
                turned = {"more": "fewer", "fewer": "more", "cells": "cells"}[word]
                self.assertEqual(parted_rows(STAFFED, other, one), (place, mate, own, turned))

    def test_by_chance(self):
        chance = random.Random(233)
        parted = 0
        for _ in range(500):
            kind = chance.choice(MORE_KINDS)
            value = any_value(chance, kind, 2)
            other = value if chance.random() < 0.4 else any_value(chance, kind, 2)
            left, right = any_ids(chance, kind, value), any_ids(chance, kind, other)
            pairs, difference = paired_rows(kind, left, right), parted_rows(kind, left, right)
            self.assertEqual(pairs is not None, value == other)
            self.assertEqual(difference is None, value == other)
            due_pairs, due_difference = walk_pairs(kind, left, right)
            self.assertEqual((pairs, difference), (due_pairs, due_difference))
            parted += difference is not None and difference[0] > 0
        self.assertGreater(parted, 20)


def walk_pairs(kind, one, other):
    """The pairs, and the first difference, told by positions alone."""
    pairs = []
    for place, around in enumerate(arounds(kind)):
        couples = []
        for left, right in [((), ())] if around is None else pairs[around]:
            rows, mates = [sorted((kept_id(own), list(cells)) for outer, own, cells in answers[place] if kept_id(outer) == wanted)
                           for answers, wanted in ((one, left), (other, right))]
            count = max(len(rows), len(mates))
            rows, mates = rows + [(None, None)] * (count - len(rows)), mates + [(None, None)] * (count - len(mates))
            for (own, cells), (mate, more) in zip(rows, mates):
                if cells != more:
                    word = "fewer" if cells is None else "more" if more is None else "cells"
                    return None, (place, own, mate, word)
                couples.append((own, mate))
        pairs.append(tuple(couples))
    return tuple(pairs), None


class PlaceNumbersTest(unittest.TestCase):
    def test_as_many_as_places(self):
        for kind in MORE_KINDS:
            self.assertEqual(len(laid_out(kind, [])), len(list_places(kind)))


if __name__ == "__main__":
    unittest.main()
