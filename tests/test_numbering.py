"""[13.10]."""

import random
import unittest

from listasks.numbering import even_numbers, numbered_answers, numbering_fault
from listasks.stitching import ids_fault, laid_out, stitch, with_keys
from tests.helping import listed, refusal
from tests.stitchref import any_value, arounds
from tests.test_compiling import ANSWERS
from tests.test_stitching import INTS, MORE_KINDS, NESTED, STAFFED

EVEN = {(0, (1,)): 1, (0, (2,)): 2, (1, (1, 1)): 1, (1, (1, 3)): 2, (1, (2, 2)): 3}


def any_numbers(chance, kind, answers):
    """A numbering without fault: numbers that ascend in each list, lists mixed, with entries of no row."""
    numbering = {}
    for place, rows in enumerate(with_keys(answers)):
        lists = {}
        for outer, whole, _ in sorted(rows, key=lambda row: row[1]):
            lists.setdefault(outer, []).append(whole)
        left = list(lists.values())
        for number in sorted(chance.sample(range(-500, 500), len(rows))):
            wholes = chance.choice([lot for lot in left if lot])
            numbering[(place, wholes.pop(0))] = number
    for _ in range(chance.randrange(3)):
        numbering[(chance.randrange(9), (7, 7, 7, 7, 7, 7, 7))] = chance.choice((None, 0, "x"))
    order = list(numbering)
    chance.shuffle(order)
    return {entry: numbering[entry] for entry in order}


class FaultTest(unittest.TestCase):
    def test_none(self):
        for numbering in (
            EVEN,
            {**EVEN, (0, (1,)): -5, (1, (2, 2)): -10 ** 40},
            {**EVEN, (1, (2, 2)): 0},                       # lists may be mixed
            {**EVEN, (0, (3,)): None, (2, ()): 1, (1, (1,)): 1, (0, (1, 1)): 2},
            dict(reversed(EVEN.items())),
        ):
            self.assertIsNone(numbering_fault(STAFFED, ANSWERS, numbering))
            self.assertIsNone(numbering_fault(STAFFED, listed(ANSWERS), numbering))
            self.assertIsNone(numbering_fault(STAFFED, [lot[::-1] for lot in ANSWERS], numbering))
        self.assertIsNone(numbering_fault(STAFFED, ((), ()), {}))

    def test_each_word(self):
        for change, due in (
            ({(0, (1,)): None}, (0, (1,), "number")),
            ({(0, (2,)): "2"}, (0, (2,), "number")),
            ({(0, (2,)): True}, (0, (2,), "number")),
            ({(0, (2,)): [2]}, (0, (2,), "number")),
            ({(0, (2,)): 1}, (0, (2,), "double")),
            ({(0, (2,)): 0}, (0, (2,), "order")),
            ({(0, (1,)): 9}, (0, (2,), "order")),
            ({(1, (1, 1)): None}, (1, (1, 1), "number")),
            ({(1, (1, 3)): 0}, (1, (1, 3), "order")),
            ({(1, (1, 3)): 1}, (1, (1, 3), "double")),
            ({(1, (2, 2)): 2}, (1, (2, 2), "double")),
            ({(1, (2, 2)): 1}, (1, (2, 2), "double")),
            # places ascending, rows by ascending whole key
            ({(0, (2,)): None, (1, (1, 1)): None}, (0, (2,), "number")),
            ({(1, (2, 2)): None, (1, (1, 3)): 0}, (1, (1, 3), "order")),
        ):
            numbering = {**EVEN, **change}
            before = dict(numbering)
            for answers in (ANSWERS, listed(ANSWERS), [lot[::-1] for lot in ANSWERS]):
                self.assertEqual(numbering_fault(STAFFED, answers, numbering), due)
                self.assertEqual(refusal(numbered_answers, STAFFED, answers, numbering), ("BadNumbers", *due))
            self.assertEqual(numbering, before)
        for entry in EVEN:
            numbering = {other: number for other, number in EVEN.items() if other != entry}
            self.assertEqual(numbering_fault(STAFFED, ANSWERS, numbering), (*entry, "missing"))
            self.assertEqual(refusal(numbered_answers, STAFFED, ANSWERS, numbering), ("BadNumbers", *entry, "missing"))
        self.assertEqual(numbering_fault(STAFFED, ANSWERS, {}), (0, (1,), "missing"))
        # the row before in its list need not be the row before
        answers = [[((), (1,), ()), ((), (2,), ())], [((1,), (5,), (0,)), ((2,), (1,), (0,)), ((2,), (2,), (0,))]]
        numbering = {**EVEN, (1, (1, 5)): 7, (1, (2, 1)): 3, (1, (2, 2)): 5}
        self.assertIsNone(numbering_fault(NESTED, answers, numbering))
        self.assertEqual(numbering_fault(NESTED, answers, {**numbering, (1, (2, 2)): 2}), (1, (2, 2), "order"))
        self.assertEqual(numbering_fault(NESTED, answers, {**numbering, (1, (2, 2)): 7}), (1, (2, 2), "double"))

    def test_faults_of_answers_come_first(self):
        for answers, due in (
            ((), (0, -1, "many")),
            ((ANSWERS[0],), (0, -1, "many")),
            (((((), (1,), (5,)),), ()), (0, 0, "cells")),
            (((((), (1,), ("a",)), ((), (1,), ("a",))), ()), (0, 1, "double")),
            (((((), (1,), ("a",)),), (((2,), (1,), ("a",)),)), (1, 0, "orphan")),
            (((((), (-1,), ("a",)),), ()), (0, 0, "row")),
        ):
            self.assertEqual(refusal(numbered_answers, STAFFED, answers, {}), ("BadAnswers", *due))


class EvenTest(unittest.TestCase):
    def test_even_numbers(self):
        self.assertEqual(even_numbers(STAFFED, ANSWERS), EVEN)
        self.assertEqual(even_numbers(STAFFED, [list(lot[::-1]) for lot in ANSWERS]), EVEN)
        self.assertEqual(even_numbers(STAFFED, ANSWERS, first=-3, step=10),
                         {(0, (1,)): -3, (0, (2,)): 7, (1, (1, 1)): -3, (1, (1, 3)): 7, (1, (2, 2)): 17})
        self.assertEqual(even_numbers(STAFFED, ANSWERS, step=2)[(1, (2, 2))], 5)
        self.assertEqual(even_numbers(STAFFED, ANSWERS, first=0)[(1, (2, 2))], 2)
        self.assertEqual(even_numbers(STAFFED, ((), ())), {})
        self.assertRaises(TypeError, lambda: even_numbers(STAFFED, ANSWERS, 1, 1))

    def test_by_chance(self):
        chance = random.Random(250)
        for _ in range(150):
            kind = chance.choice(MORE_KINDS)
            value = any_value(chance, kind)
            answers = shuffled(chance, laid_out(kind, value))
            numbering = even_numbers(kind, answers, first=chance.randrange(-9, 9), step=chance.randrange(1, 5))
            self.assertIsNone(numbering_fault(kind, answers, numbering))
            self.assertEqual(len(numbering), sum(len(lot) for lot in answers))
            self.assertEqual(stitch(kind, numbered_answers(kind, answers, numbering)), value)


def shuffled(chance, answers):
    lots = [list(lot) for lot in answers]
    for lot in lots:
        chance.shuffle(lot)
    return lots


class NumberedTest(unittest.TestCase):
    def test_numbered_answers(self):
        due = ((((), 1, ("a",)), ((), 2, ("b",))), ((1, 1, ("ann",)), (1, 2, ("cy",)), (2, 3, ("bob",))))
        self.assertEqual(numbered_answers(STAFFED, ANSWERS, EVEN), due)
        self.assertEqual(numbered_answers(STAFFED, listed(ANSWERS), EVEN), due)
        # each place ascending by own number
        numbering = {(0, (1,)): -5, (0, (2,)): 70, (1, (1, 1)): 9, (1, (1, 3)): 10, (1, (2, 2)): -5}
        told = numbered_answers(STAFFED, [lot[::-1] for lot in ANSWERS], numbering)
        self.assertEqual(told, ((((), -5, ("a",)), ((), 70, ("b",))), ((70, -5, ("bob",)), (-5, 9, ("ann",)), (-5, 10, ("cy",)))))
        self.assertEqual(stitch(STAFFED, told), stitch(STAFFED, with_keys(ANSWERS)))
        self.assertEqual(numbered_answers(INTS, [()], {}), ((),))

    def test_what_is_passed_stays(self):
        answers, numbering = listed(ANSWERS), dict(EVEN)
        told = numbered_answers(STAFFED, answers, numbering)
        self.assertEqual((answers, numbering), (listed(ANSWERS), EVEN))
        answers[0][0][2][0] = "z"
        numbering.clear()
        self.assertEqual(told[0][0], ((), 1, ("a",)))

    def test_beside_whole_keys(self):
        chance = random.Random(251)
        for _ in range(300):
            kind = chance.choice(MORE_KINDS)
            value = any_value(chance, kind)
            answers = shuffled(chance, laid_out(kind, value))
            numbering = any_numbers(chance, kind, answers)
            before = dict(numbering)
            self.assertIsNone(numbering_fault(kind, answers, numbering))
            told = numbered_answers(kind, answers, numbering)
            self.assertEqual(list(numbering.items()), list(before.items()))
            self.assertIsNone(ids_fault(kind, told))
            for place, (lot, around) in enumerate(zip(told, arounds(kind))):
                owns = [own for _, own, _ in lot]
                self.assertEqual(owns, sorted(owns))
                due = [(() if around is None else numbering[(around, outer)], numbering[(place, whole)], tuple(cells))
                       for outer, whole, cells in with_keys(answers)[place]]
                self.assertEqual(sorted(lot, key=str), sorted(due, key=str))
            self.assertEqual(stitch(kind, told), value)
            self.assertEqual(stitch(kind, shuffled(chance, told)), value)


if __name__ == "__main__":
    unittest.main()
