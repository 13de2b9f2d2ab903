"""[13.8] and [13.9]."""

import inspect
import random
import unittest

from listasks.compiling import answers_of, questions_of
from listasks.meaning import meaning
from listasks.stitching import ids_fault, laid_out, stitch, with_keys
from listasks.streams import Stitcher, merged_rows, stream
from tests.helping import listed, nested, refusal
from tests.making import any_store
from tests.stitchref import any_ids, any_value, arounds, kept_id
from tests.test_compiling import ANSWERS, staff
from tests.test_reading import RichKinds, chance_program
from tests.test_stitching import IDS, INTS, MORE_KINDS, NESTED, RICH, STAFFED, VALUE

TEXTS = ("list", ("list", "text"))


class StitcherTest(unittest.TestCase):
    def test_open_and_closed(self):
        stitcher = Stitcher(STAFFED)
        self.assertEqual((stitcher.open_rows, stitcher.is_done), (0, False))
        for place, row, told, still_open in (
            (0, ((), 3, ("b",)), (), 1),
            (0, ((), 7, ("a",)), ({"name": "b", "staff": []},), 1),
            (1, (7, 1, ("cy",)), (), 2),
            (1, (7, 2, ("ann",)), (), 2),
            (0, ((), 8, ("c",)), ({"name": "a", "staff": ["cy", "ann"]},), 1),
            (1, (8, 0, ("dan",)), (), 2),
        ):
            self.assertEqual(stitcher.push(place, row), tuple(tuple(value.items()) for value in told))
            self.assertEqual((stitcher.open_rows, stitcher.is_done), (still_open, False))
        self.assertEqual(stitcher.finish(), ((("name", "c"), ("staff", ["dan"])),))
        self.assertEqual((stitcher.open_rows, stitcher.is_done), (0, True))

    def test_rows_at_several_places(self):
        # places: 0, 1 (b c), 2 (b c e), 3 (g), 4 (g *)
        stitcher = Stitcher(RICH)
        told = []
        for place, row, still_open in (
            (0, ((), 5, (1, False)), 1),
            (3, (5, 2, ()), 2),
            (1, (5, 1, ("x",)), 3),
            (4, (2, 0, (7,)), 4),
            (2, (1, 8, (True,)), 5),
            (4, (2, 1, (8,)), 5),
            (2, (1, 9, (False,)), 5),
            (1, (5, 4, ("y",)), 4),      # closes the row at place 2, too
            (3, (5, 3, ()), 3),          # closes the row at place 4, too
            (2, (4, 8, (True,)), 4),
            (3, (5, 6, ()), 4),
            (0, ((), 6, (2, True)), 1),
        ):
            told += stitcher.push(place, row)
            self.assertEqual(stitcher.open_rows, still_open)
        first = (("a", 1), ("b", (("c", [(("d", "x"), ("e", [True, False])), (("d", "y"), ("e", [True]))]), ("f", False))),
                 ("g", [[7, 8], [], []]))
        self.assertEqual(told, [first])
        self.assertEqual(stitcher.finish(), ((("a", 2), ("b", (("c", []), ("f", True))), ("g", [])),))

    def test_finish_alone(self):
        stitcher = Stitcher(INTS)
        self.assertEqual(stitcher.finish(), ())
        self.assertTrue(stitcher.is_done)
        self.assertEqual(refusal(stitcher.finish), ("BadPush", 0, "done"))
        self.assertEqual(refusal(stitcher.push, 0, ((), 1, (1,))), ("BadPush", 0, "done"))
        self.assertEqual(refusal(stitcher.push, 9, None), ("BadPush", 9, "done"))
        self.assertEqual((stitcher.open_rows, stitcher.is_done), (0, True))

    def test_each_word(self):
        for pushes, push, word in (
            ((), (2, ((), 1, ("a",))), "place"),
            ((), (-1, ((), 1, ("a",))), "place"),
            ((), (True, (1, 1, ("a",))), "place"),
            ((), (None, None), "place"),
            ((), ("0", ((), 1, ("a",))), "place"),
            ((), (0, None), "row"),
            ((), (0, ()), "row"),
            ((), (0, ((), 1)), "row"),
            ((), (0, ((), 1, ("a",), 2)), "row"),
            ((), (0, ("", 1, ("a",))), "row"),
            ((), (0, (True, 1, ("a",))), "row"),
            ((), (0, ((), True, ("a",))), "row"),
            ((), (0, ((), (-1,), ("a",))), "row"),
            ((), (0, ((), (True,), ("a",))), "row"),
            ((), (0, ((), "1", ("a",))), "row"),
            ((), (0, ((), 1, "a")), "row"),
            ((), (0, ((), 1, None)), "row"),
            ((), (0, ((), 1, ())), "cells"),
            ((), (0, ((), 1, ("a", "b"))), "cells"),
            ((), (0, ((), 1, (1,))), "cells"),
            ((), (0, (7, 1, (True,))), "cells"),
            ((), (0, (7, 1, ("a",))), "orphan"),
            ((), (0, ((0,), 1, ("a",))), "orphan"),
            ((), (1, ((), 1, ("a",))), "orphan"),
            ((), (1, (7, 1, ("a",))), "orphan"),
            (((0, ((), 7, ("a",))),), (1, (8, 1, ("a",))), "orphan"),
            (((0, ((), 7, ("a",))),), (1, ((7,), 1, ("a",))), "orphan"),
            (((0, ((), (7,), ("a",))),), (1, (7, 1, ("a",))), "orphan"),
            (((0, ((), 7, ("a",))), (0, ((), 8, ("a",)))), (1, (7, 1, ("a",))), "orphan"),
            (((0, ((), 7, ("a",))),), (0, ((), 7, ("a",))), "order"),
            (((0, ((), 7, ("a",))),), (0, ((), -8, ("a",))), "order"),
            (((0, ((), 7, ("a",))),), (0, ((), (8,), ("a",))), "order"),
            (((0, ((), (8,), ("a",))),), (0, ((), 9, ("a",))), "order"),
            (((0, ((), (8, 1), ("a",))),), (0, ((), [8], ("a",))), "order"),
            (((0, ((), (8, 1), ("a",))),), (0, ((), [8, 1], ("a",))), "order"),
            (((0, ((), 7, ("a",))), (1, (7, 4, ("b",)))), (1, (7, 4, ("c",))), "order"),
            (((0, ((), 7, ("a",))), (1, (7, 4, ("b",)))), (1, (7, 3, ("c",))), "order"),
            (((0, ((), 7, ("a",))), (1, (7, 4, ("b",)))), (1, (7, (), ("c",))), "order"),
        ):
            with self.subTest(pushes=pushes, push=push):
                stitcher = Stitcher(STAFFED)
                for place, row in pushes:
                    stitcher.push(place, row)
                before = stitcher.open_rows
                self.assertEqual(refusal(stitcher.push, *push), ("BadPush", push[0], word))
                self.assertEqual((stitcher.open_rows, stitcher.is_done), (before, False))
                # nothing has changed: what is let by is told as if nothing had been refused
                due = Stitcher(STAFFED)
                for place, row in pushes:
                    due.push(place, row)
                own = (9,) if pushes and isinstance(pushes[0][1][1], tuple) else 9
                last = (0, ((), own, ("z",)))
                self.assertEqual(stitcher.push(*last), due.push(*last))
                self.assertEqual(stitcher.finish(), due.finish())

    def test_what_is_let_by(self):
        stitcher = Stitcher(TEXTS)
        # another list begins anew, and its ids may be of the other sort
        for place, row in ((0, ([], [2], [])), (1, ([2], 5, ["a"])), (1, ((2,), 6, ["b"])), (0, ((), [2, 0], ())),
                           (1, ([2, 0], [0], ["c"])), (1, ((2, 0), (0, 0), ["d"])), (0, ((), (3,), ())), (1, ((3,), -7, ("e",)))):
            stitcher.push(place, row)
        self.assertEqual(stitcher.finish(), (["e"],))
        for own, more in ((-5, -4), (0, 10 ** 40), ((), (0,)), ((1,), (1, 0)), ((1, 9), (2,)), ([0, 3], (0, 4))):
            stitcher = Stitcher(INTS)
            self.assertEqual(stitcher.push(0, ((), own, (10 ** 40,))), ())
            self.assertEqual(stitcher.push(0, [[], more, [-1]]), (10 ** 40,))
            self.assertEqual(stitcher.finish(), (-1,))

    def test_what_is_passed_and_told_may_be_spoilt(self):
        stitcher = Stitcher(NESTED)
        row = [[], [4], []]
        stitcher.push(0, row)
        row[1][0] = 9
        inner = [[4], [1], [7]]
        stitcher.push(1, inner)
        self.assertEqual(inner, [[4], [1], [7]])
        inner[2][0] = 8
        inner[1].clear()
        stitcher.push(1, ((4,), (2,), (6,)))
        told = stitcher.push(0, ((), (5,), ()))
        self.assertEqual(told, ([7, 6],))
        told[0].append(3)
        self.assertEqual(stitcher.finish(), ([],))

    def test_by_chance(self):
        chance = random.Random(240)
        for _ in range(300):
            kind = chance.choice(MORE_KINDS)
            value = any_value(chance, kind)
            answers = any_ids(chance, kind, value)
            pushes = any_order(chance, kind, answers)
            stitcher, due = Stitcher(kind), Watcher(kind)
            told = []
            for place, row in pushes:
                told += stitcher.push(place, row)
                due.push(place)
                self.assertEqual((stitcher.open_rows, len(told)), (len(due.open), due.closed))
            told += stitcher.finish()
            self.assertEqual(told, value)

    def test_any_pushes_that_are_not_refused(self):
        chance = random.Random(241)
        whole = 0
        for _ in range(400):
            kind = chance.choice(MORE_KINDS)
            stitcher, told = Stitcher(kind), []
            lots = [[] for _ in arounds(kind)]
            rows = any_ids(chance, kind, any_value(chance, kind))
            pushes = any_order(chance, kind, rows)
            for place, row in pushes + pushes[:1]:
                if chance.random() < 0.1:
                    chance.shuffle(pushes)
                    place, row = pushes[0]
                if refusal(lambda: told.extend(stitcher.push(place, row))) is None:
                    lots[place].append(row)
            told += stitcher.finish()
            if ids_fault(kind, lots) is None:
                self.assertEqual(told, stitch(kind, lots))
                whole += sum(len(lot) for lot in lots)
        self.assertGreater(whole, 500)

    def test_deep_kinds(self):
        deep = nested(900, lambda kind: ("list", kind), "int")
        stitcher = Stitcher(deep)
        for place in range(900):
            self.assertEqual(stitcher.push(place, (place - 1 if place else (), place, (5,) if place == 899 else ())), ())
        self.assertEqual(stitcher.open_rows, 900)
        value, = stitcher.finish()
        for _ in range(899):
            value, = value
        self.assertEqual((value, stitcher.open_rows), (5, 0))


class Watcher:
    """Which places have an open row, and how many values are closed, by the words of [13.8]."""

    def __init__(self, kind):
        self.arounds = arounds(kind)
        self.open = set()
        self.closed = 0

    def beneath(self, place):
        found = {place}
        for other, around in enumerate(self.arounds):
            if around in found:
                found.add(other)
        return found

    def push(self, place):
        self.closed += place == 0 and 0 in self.open
        self.open -= self.beneath(place)
        self.open.add(place)


def any_order(chance, kind, answers):
    """The rows of id answers as pushes, each behind the row around it, the places mixed by chance."""
    inner = [[at for at, around in enumerate(arounds(kind)) if around == place] for place in range(len(answers))]

    def of_list(place, outer):
        rows = sorted((row for row in answers[place] if kept_id(row[0]) == outer), key=lambda row: kept_id(row[1]))
        pushes = []
        for row in rows:
            pushes.append((place, row))
            lots = [of_list(at, kept_id(row[1])) for at in inner[place]]
            while any(lots):
                lot = chance.choice([lot for lot in lots if lot])
                pushes.append(lot.pop(0))
        return pushes

    return of_list(0, ())


class MergedTest(unittest.TestCase):
    def test_merged_rows(self):
        due = [(0, ((), (1,), ("a",))), (1, ((1,), (1, 1), ("ann",))), (1, ((1,), (1, 3), ("cy",))),
               (0, ((), (2,), ("b",))), (1, ((2,), (2, 2), ("bob",)))]
        self.assertEqual(list(merged_rows(ANSWERS)), due)
        self.assertEqual(list(merged_rows(listed(ANSWERS))), due)
        self.assertEqual(list(merged_rows(((), ()))), [])
        self.assertEqual(list(merged_rows(())), [])
        self.assertTrue(inspect.isgeneratorfunction(merged_rows))

    def test_equal_keys_come_by_place(self):
        answers = [[((), (), ())], [((), (), ()), ((), (0,), ())], [((), (), (1,)), ((0,), (), (2,))]]
        self.assertEqual(list(merged_rows(answers)), [
            (0, ((), (), ())), (1, ((), (), ())), (2, ((), (), (1,))), (1, ((), (0,), ())), (2, ((0,), (0,), (2,)))])
        # cells are never compared
        self.assertEqual([row[2] for _, row in merged_rows([[((), (1,), (3,)), ((), (1,), ("a",)), ((), (1,), (2,))]])],
                         [(3,), ("a",), (2,)])

    def test_by_chance(self):
        chance = random.Random(242)
        with RichKinds():
            for _ in range(150):
                program = chance_program(chance)
                answers = answers_of(questions_of(program), any_store(chance))
                merged = list(merged_rows(answers))
                keys = [(row[1], place) for place, row in merged]
                self.assertEqual(keys, sorted(keys))
                for place, rows in enumerate(with_keys(answers)):
                    self.assertEqual(tuple(row for at, row in merged if at == place), rows)


class StreamTest(unittest.TestCase):
    def test_stream(self):
        self.assertEqual(list(stream(STAFFED, ANSWERS)), [(("name", "a"), ("staff", ["ann", "cy"])), (("name", "b"), ("staff", ["bob"]))])
        self.assertEqual(list(stream(STAFFED, laid_out(STAFFED, VALUE))), VALUE)
        self.assertEqual(list(stream(STAFFED, ((), ()))), [])
        self.assertTrue(inspect.isgeneratorfunction(stream))

    def test_refused_rows(self):
        for kind, answers, values, due in (
            (INTS, [[((), (1,), (5,)), ((), (2,), ("x",))]], [], (0, "cells")),
            (INTS, [[((), (1,), (5,)), ((), (2,), (6,)), ((), (3,), ("x",))]], [5], (0, "cells")),
            (INTS, [[((), (1,), (5,)), ((), (1,), (6,))]], [], (0, "order")),
            (INTS, [[((), (1,), (5,)), ((1,), (1,), (6,))]], [], (0, "orphan")),
            (NESTED, [[((), (1,), ()), ((), (3,), ())], [((1,), (1,), (5,)), ((2,), (1,), (6,))]], [], (1, "orphan")),
            (NESTED, [[((), (1,), ()), ((), (2,), ()), ((), (4,), ())], [((1,), (1,), (5,)), ((3,), (1,), (6,))]], [[5]], (1, "orphan")),
            (INTS, [[((), (1,), (5,))], [((1,), (1,), (5,))]], [], (1, "place")),
        ):
            told = []
            self.assertEqual(refusal(lambda: told.extend(stream(kind, answers))), ("BadPush", *due))
            found = []
            generator = stream(kind, answers)
            for _ in values:
                found.append(next(generator))
            self.assertEqual(found, values)
            self.assertEqual(refusal(next, generator), ("BadPush", *due))

    def test_each_value_as_soon_as_it_is_closed(self):
        answers = [[((), (1,), (5,)), ((), (2,), (6,)), ((), (3,), ("x",))]]
        generator = stream(INTS, answers)
        self.assertEqual(next(generator), 5)
        self.assertEqual(refusal(next, generator), ("BadPush", 0, "cells"))

    def test_beside_stitch(self):
        chance = random.Random(243)
        with RichKinds():
            for _ in range(250):
                program = chance_program(chance)
                store = any_store(chance)
                answers = answers_of(questions_of(program), store)
                before = listed(answers)
                told = list(stream(program.kind, answers))
                self.assertEqual(told, stitch(program.kind, with_keys(answers)))
                self.assertEqual(told, meaning(program, store))
                self.assertEqual(listed(answers), before)
        for _ in range(150):
            kind = chance.choice(MORE_KINDS)
            value = any_value(chance, kind)
            self.assertEqual(list(stream(kind, listed(laid_out(kind, value)))), value)

    def test_values_told_may_be_spoilt(self):
        answers = laid_out(TEXTS, [["a"], [], ["b", "c"]])
        told = []
        for value in stream(TEXTS, answers):
            told.append(list(value))
            value.append("x")
        self.assertEqual(told, [["a"], [], ["b", "c"]])

    def test_the_example_answers(self):
        self.assertEqual(list(stream(STAFFED, ANSWERS)), stitch(STAFFED, with_keys(ANSWERS)))
        self.assertEqual(stitch(STAFFED, IDS), VALUE)
        self.assertEqual(len(staff()), 5)


if __name__ == "__main__":
    unittest.main()
