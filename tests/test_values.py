"""[5.1] to [5.5]."""

import itertools
import random
import unittest

from listasks.values import (
    bag_of,
    bag_text,
    counts_of,
    pairing,
    pairing_fits,
    parted_at,
    same_bag,
    value_size,
    value_text,
)
from tests.helping import nested

BASES = (0, 1, -5, "", "1", "true", True, False)


def any_value(chance, deep):
    pick = chance.randrange(4) if deep > 1 else 0
    if pick < 2:
        return chance.choice((0, 1, "1", "a", True, False))
    if pick == 2:
        labels = sorted(chance.sample("abc", chance.randrange(3)))
        return tuple((label, any_value(chance, deep - 1)) for label in labels)
    return [any_value(chance, deep - 1) for _ in range(chance.randrange(4))]


def shuffled(chance, value):
    if isinstance(value, list):
        items = [shuffled(chance, item) for item in value]
        chance.shuffle(items)
        return items
    if isinstance(value, tuple):
        return tuple((label, shuffled(chance, part)) for label, part in value)
    return value


def same_by_trying(one, other):
    """Whether two values are the same bag, told by trying all orders."""
    if isinstance(one, list) and isinstance(other, list):
        return len(one) == len(other) and any(
            all(same_by_trying(left, right) for left, right in zip(one, order))
            for order in itertools.permutations(other))
    if isinstance(one, tuple) and isinstance(other, tuple):
        return [label for label, _ in one] == [label for label, _ in other] and all(
            same_by_trying(left, right) for (_, left), (_, right) in zip(one, other))
    return one.__class__ is other.__class__ and one == other


class TextsTest(unittest.TestCase):
    def test_value_text(self):
        cases = (
            (0, "0"), (-12, "-12"), (10 ** 40, "1" + "0" * 40), ("", '""'), ("a b", '"a b"'), (True, "true"),
            (False, "false"), ((), "{}"), ((("a", 1), ("b", "x")), '{a=1,b="x"}'), ([], "[]"), ([1, 2], "[1,2]"),
            ([[2, 1], [], [(("a", [True]),)]], "[[2,1],[],[{a=[true]}]]"),
        )
        for value, text in cases:
            self.assertEqual(value_text(value), text)

    def test_value_size(self):
        for value, size in ((5, 1), ("a", 1), (True, 1), ((), 0), ([], 0), ([[], []], 0), ([1, "a", True], 3),
                            ((("a", 1), ("b", [2, 3])), 3), ([[1], [(("a", 2), ("b", 3))]], 3)):
            self.assertEqual(value_size(value), size)

    def test_bag_text(self):
        cases = (
            ([2, 1], "[1,2]"), ([10, 9, 2], "[10,2,9]"), ([2, 1, 2], "[1,2,2]"), ([-1, 0], "[-1,0]"),
            ([1, "1", True], '["1",1,true]'), ([[2, 1], [1]], "[[1,2],[1]]"), ([[3], [2, 1], []], "[[1,2],[3],[]]"),
            ((("a", [2, 1]), ("b", 1)), "{a=[1,2],b=1}"), ([(("a", [2]),), (("a", [1]),)], "[{a=[1]},{a=[2]}]"),
            (5, "5"), ([], "[]"),
        )
        for value, text in cases:
            self.assertEqual(bag_text(value), text)
            self.assertEqual(value_text(bag_of(value)), text)

    def test_bag_of_is_new(self):
        value = [[2, 1], (("a", [3]),)]
        told = bag_of(value)
        self.assertEqual(value, [[2, 1], (("a", [3]),)])
        self.assertEqual(told, [[1, 2], (("a", [3]),)])
        told[0].clear()
        told[1][0][1].clear()
        self.assertEqual(value, [[2, 1], (("a", [3]),)])

    def test_same_bag(self):
        self.assertIs(same_bag([1, 2, 1], [2, 1, 1]), True)
        self.assertIs(same_bag([1, 2, 1], [2, 1, 2]), False)
        self.assertIs(same_bag([[1, 2], []], [[], [2, 1]]), True)
        for one in BASES:
            for other in BASES:
                self.assertIs(same_bag(one, other), one is other)
        self.assertIs(same_bag([], ()), False)
        self.assertIs(same_bag([1], 1), False)
        self.assertIs(same_bag((("a", 1),), (("b", 1),)), False)

    def test_counts_of(self):
        self.assertEqual(counts_of([]), ())
        self.assertEqual(counts_of([2, 1, "1", 2, True]), (('"1"', 1), ("1", 1), ("2", 2), ("true", 1)))
        self.assertEqual(counts_of([[1, 2], [2, 1], []]), (("[1,2]", 2), ("[]", 1)))

    def test_by_trying(self):
        chance = random.Random(51)
        seen = set()
        for _ in range(3000):
            one = any_value(chance, 4)
            other = shuffled(chance, one) if chance.random() < 0.4 else any_value(chance, 4)
            same = same_by_trying(one, other)
            seen.add(same)
            self.assertEqual(same_bag(one, other), same)
            self.assertEqual(bag_text(bag_of(one)), bag_text(one))
            self.assertEqual(value_text(bag_of(one)), bag_text(one))
            self.check_papers(one, other, same)
        self.assertEqual(seen, {True, False})

    def check_papers(self, one, other, same):
        paper = pairing(one, other)
        parted = parted_at(one, other)
        self.assertEqual(paper is None, not same)
        self.assertEqual(parted is None, same)
        if same:
            self.assertIs(pairing_fits(one, other, paper), True)
            return
        path, text, many, others = parted
        self.assertNotEqual(many, others)
        for label in path:
            one, other = dict(one)[label], dict(other)[label]
        if isinstance(one, list) and isinstance(other, list):
            for value, count in ((one, many), (other, others)):
                self.assertEqual([bag_text(item) for item in value].count(text), count)
            for item in one + other:
                if bag_text(item) < text:
                    counts = [[bag_text(part) for part in value].count(bag_text(item)) for value in (one, other)]
                    self.assertEqual(counts[0], counts[1])
        else:
            self.assertEqual((text, many, others), (bag_text(one), 1, 0))

    def test_deep_values(self):
        deep = nested(2000, lambda value: [value], 1)
        self.assertEqual(value_text(deep), "[" * 2000 + "1" + "]" * 2000)
        self.assertEqual(value_size(deep), 1)
        self.assertIs(same_bag(deep, nested(2000, lambda value: [value], 1)), True)
        self.assertEqual(value_text(bag_of(deep)), value_text(deep))


class PairingTest(unittest.TestCase):
    def test_examples(self):
        self.assertEqual(pairing([1, 2, 1], [2, 1, 1]), ((1, ()), (0, ()), (2, ())))
        self.assertEqual(parted_at([1, 1], [1]), ((), "1", 2, 1))

    def test_pairing(self):
        self.assertEqual(pairing(1, 1), ())
        self.assertEqual(pairing([], []), ())
        self.assertEqual(pairing((), ()), ())
        self.assertEqual(pairing((("a", 1), ("b", [2, 3])), (("a", 1), ("b", [3, 2]))), ((), ((1, ()), (0, ()))))
        self.assertEqual(pairing([[1, 2], [3], [2, 1]], [[3], [2, 1], [1, 2]]),
                         ((1, ((1, ()), (0, ()))), (0, ((0, ()),)), (2, ((1, ()), (0, ())))))
        for one, other in ((1, True), (1, "1"), (1, 2), ([1], [1, 1]), ([1], 1), ((), []), ((("a", 1),), ())):
            self.assertIsNone(pairing(one, other))
            self.assertIsNone(pairing(other, one))

    def test_pairing_fits(self):
        record, turned = (("a", 1), ("b", [2, 3])), (("a", 1), ("b", [3, 2]))
        good = (
            (1, 1, ()), ("a", "a", ()), ([], [], ()), ((), (), ()), ([1, 1], [1, 1], ((0, ()), (1, ()))),
            ([1, 1], [1, 1], ((1, ()), (0, ()))), (record, turned, ((), ((1, ()), (0, ())))),
            ([record, [1]], [[1], turned], ((1, ((), ((1, ()), (0, ())))), (0, ((0, ()),)))),
        )
        for one, other, paper in good:
            self.assertIs(pairing_fits(one, other, paper), True)

    def test_pairing_fits_not(self):
        record = (("a", 1), ("b", 2))
        bad = (
            (1, 2, ()), (1, True, ()), (True, 1, ()), (1, "1", ()), (0, False, ()), (1, 1, ((),)), (1, 1, 0), (1, 1, ((0, ()),)),
            (1, [], ()), ([], (), ()), ((), [], ()), ([1], 1, ()), ((), 1, ()),
            (record, record, ()), (record, record, ((),)), (record, record, ((), (), ())), (record, record, 0),
            (record, record, ((), ((),))), (record, (("a", 1), ("c", 2)), ((), ())), (record, record[:1], ((), ())),
            (record, record[:1], ((),)),
            ([1], [1], ()), ([1], [1], ((0, ()), (1, ()))), ([1], [1, 1], ((0, ()),)), ([1, 1], [1], ((0, ()), (0, ()))),
            ([1, 1], [1, 1], ((0, ()), (0, ()))), ([1], [1], ((1, ()),)), ([1], [1], ((-1, ()),)),
            ([1], [1], ((False, ()),)), ([1, 1], [1, 1], ((0, ()), (True, ()))), ([1], [1], (0,)), ([1], [1], ((0,),)),
            ([1], [1], ((0, (), ()),)), ([1], [1], ((0, 0),)), ([1], [1], (((), ()),)), ([1], [1], 0), ([1], [1], 1),
            ([1, 2], [2, 1], ((0, ()), (1, ()))), ([[1]], [[2]], ((0, ((0, ()),)),)), ([[1]], [[1]], ((0, ()),)),
        )
        for one, other, paper in bad:
            self.assertIs(pairing_fits(one, other, paper), False, (one, other, paper))

    def test_some_paper_fits_exactly_if_they_are_the_same_bag(self):
        values = [[], [1], [1, 1], [1, 2], [2, 1], [True, 1], [[1]], [[1], [1, 2]], [[2, 1], [1]]]
        papers = [()]
        for _ in range(2):
            couples = [(at, paper) for at in range(2) for paper in papers]
            papers = [()] + [(couple,) for couple in couples] + list(itertools.product(couples, repeat=2))
        for one in values:
            for other in values:
                fits = any(pairing_fits(one, other, paper) for paper in papers)
                self.assertEqual(fits, same_bag(one, other), (one, other))

    def test_parted_at(self):
        cases = (
            ([1], [2], ((), "1", 1, 0)), ([2], [1], ((), "1", 0, 1)), ([1, 2], [2], ((), "1", 1, 0)),
            ([10, 2], [2, 10, 2], ((), "2", 1, 2)), (1, 2, ((), "1", 1, 0)), (2, 1, ((), "2", 1, 0)),
            (True, 1, ((), "true", 1, 0)), ([2, 1], 5, ((), "[1,2]", 1, 0)), ((), [], ((), "{}", 1, 0)),
            ((("a", 1),), (("b", 1),), ((), "{a=1}", 1, 0)), ((("a", 1),), (), ((), "{a=1}", 1, 0)),
            ((("a", 1), ("b", 2)), (("a", 1), ("b", 3)), (("b",), "2", 1, 0)),
            ((("a", [2]), ("b", 2)), (("a", [3]), ("b", 3)), (("a",), "2", 1, 0)),
            ((("a", (("x", [1, 1]),)),), (("a", (("x", [1]),)),), (("a", "x"), "1", 2, 1)),
            ([(("a", 1),)], [(("a", 2),)], ((), "{a=1}", 1, 0)), ([[2, 1]], [[1]], ((), "[1,2]", 1, 0)),
            ([1, "1"], ["1", "1"], ((), '"1"', 1, 2)),
        )
        for one, other, told in cases:
            self.assertEqual(parted_at(one, other), told)
        self.assertIsNone(parted_at([1, [2, 3]], [[3, 2], 1]))
        self.assertIsNone(parted_at("a", "a"))

    def test_nothing_passed_is_changed(self):
        one, other = [[2, 1], [1]], [[1], [1, 2]]
        for call in (pairing, same_bag, parted_at):
            call(one, other)
        counts_of(one)
        bag_text(one)
        pairing_fits(one, other, ((1, ((1, ()), (0, ()))), (0, ((0, ()),))))
        self.assertEqual((one, other), ([[2, 1], [1]], [[1], [1, 2]]))


if __name__ == "__main__":
    unittest.main()
