"""[15.6] to [15.8]."""

import inspect
import itertools
import random
import unittest

from listasks.folds import (
    count_laid,
    count_maps,
    folded,
    folding_fault,
    foldings_of,
    images_of,
    maps_into,
    shown_by,
    tally_of,
)
from listasks.meaning import meaning
from listasks.pieces import Piece, constants_of, least_spelling, pieces_of, renaming_of
from listasks.stores import Store
from tests.helping import listed, refusal
from tests.making_plain import HEADS, all_maps, any_plain_program, any_small_store, is_small, shown_in, shown_of
from tests.test_pieces import A, B, CHAIN, TURNED, ZERO, any_piece, u

SEVEN = ("number", 7)
EDGE = Piece((("edge", (u(0), u(1))),), ("text", "text"), (u(1),))
LOOP = Piece((("edge", (u(0), u(0))),), ("text",), (u(0),))
FREE = Piece((("edge", (u(0), u(1))), ("edge", (u(2), u(3)))), ("text",) * 4, (u(0),))
NOTHING = Piece((), (), (A,))


def edges(*pairs):
    store = Store(HEADS)
    for pair in pairs:
        store.put("edge", tuple(pair))
    return store


def small_piece(chance):
    while True:
        piece = any_piece(chance, 3)
        if len(piece.kinds) <= 4:
            return piece


class MapsTest(unittest.TestCase):
    def test_maps(self):
        store = edges("ab", "bc", "bb", "ab")
        self.assertEqual(list(maps_into(EDGE, store)), [(1,), (2,), (3,), (4,)])
        self.assertEqual(list(maps_into(LOOP, store)), [(3,)])
        self.assertEqual(list(maps_into(CHAIN, store)), [(1, 2), (1, 3), (3, 2), (3, 3), (4, 2), (4, 3)])
        self.assertEqual(list(maps_into(Piece((("edge", (A, u(0))),), ("text",), ()), store)), [(1,), (4,)])
        self.assertEqual(list(maps_into(Piece((("edge", (A, A)),), (), ()), store)), [])
        self.assertEqual(list(maps_into(NOTHING, store)), [()])
        self.assertEqual(list(maps_into(NOTHING, Store(HEADS))), [()])
        self.assertEqual(list(maps_into(EDGE, Store(HEADS))), [])
        store.take("edge", 1)
        self.assertEqual(list(maps_into(CHAIN, store)), [(3, 2), (3, 3), (4, 2), (4, 3)])
        self.assertTrue(inspect.isgeneratorfunction(maps_into))

    def test_columns_of_truths_are_passed_over(self):
        store = Store(HEADS)
        store.put("mark", ("a", True, 7))
        store.put("mark", ("a", False, 7))
        store.put("mark", ("b", False, 7))
        store.put("on", (True,))
        store.put("on", (False,))
        piece = Piece((("mark", (A, u(0))), ("on", ()), ("mark", (u(1), u(0)))), ("int", "text"), (u(0), u(1), ZERO))
        maps = list(maps_into(piece, store))
        self.assertEqual(maps, list(itertools.product((1, 2), (1, 2), (1, 2, 3))))
        self.assertEqual(shown_by(piece, store, (2, 1, 3)), (7, "b", 0))
        self.assertEqual(count_maps(piece, store, (7, "b", 0)), 4)
        self.assertEqual(count_maps(piece, store, (7, "b", 1)), 0)
        self.assertEqual(tally_of([piece], store), (((7, "a", 0), 8), ((7, "b", 0), 4)))

    def test_shown_and_counts(self):
        store = edges("ab", "bc", "bb", "ab")
        self.assertEqual(shown_by(EDGE, store, (2,)), ("c",))
        self.assertEqual(shown_by(EDGE, store, [2]), ("c",))
        self.assertEqual(shown_by(CHAIN, store, (4, 2)), ("a", "c"))
        self.assertEqual(shown_by(NOTHING, store, ()), ("a",))
        for piece, shown, due in ((EDGE, ("b",), 3), (EDGE, ["c"], 1), (EDGE, ("a",), 0), (CHAIN, ("a", "c"), 2), (CHAIN, ("b", "b"), 1),
                                  (CHAIN, ("c", "c"), 0), (NOTHING, ("a",), 1), (NOTHING, ("b",), 0), (NOTHING, (), 0)):
            self.assertEqual(count_maps(piece, store, shown), due)
        self.assertEqual(tally_of((EDGE, LOOP, NOTHING), store), ((("a",), 1), (("b",), 4), (("c",), 1)))
        self.assertEqual(tally_of((), store), ())
        self.assertEqual(tally_of([CHAIN], edges("ab")), ())
        self.assertEqual(store, edges("ab", "bc", "bb", "ab"))

    def test_by_chance(self):
        chance = random.Random(300)
        found = 0
        for _ in range(300):
            piece, store = any_piece(chance), any_small_store(chance)
            before = store.copied()
            due = all_maps(piece, store)
            self.assertEqual(list(maps_into(piece, store)), [numbers for numbers, _ in due])
            self.assertEqual([shown_by(piece, store, numbers) for numbers, _ in due], [shown_of(piece, values) for _, values in due])
            counts = {}
            for _, values in due:
                shown = shown_of(piece, values)
                counts[shown] = counts.get(shown, 0) + 1
            for shown in counts:
                self.assertEqual(count_maps(piece, store, shown), counts[shown])
            self.assertEqual(tally_of([piece], store), tuple(sorted(counts.items())))
            self.assertEqual(store, before)
            found += len(due)
        self.assertGreater(found, 500)

    def test_the_tally_is_the_meanings(self):
        chance = random.Random(301)
        for _ in range(200):
            program, store = any_plain_program(chance), any_small_store(chance)
            counts = {}
            for value in meaning(program, store):
                shown = shown_in(program.kind, value)
                counts[shown] = counts.get(shown, 0) + 1
            self.assertEqual(tally_of(pieces_of(program), store), tuple(sorted(counts.items())))


def all_foldings(piece, constants):
    """All foldings in order, found among all tuples of numbers and entries."""
    entries = list(constants) + [u(number) for number in range(len(piece.kinds))]
    found = []
    for row_to in itertools.product(range(len(piece.rows)), repeat=len(piece.rows)):
        for picked in itertools.product(range(len(entries)), repeat=len(piece.kinds)):
            worth_to = tuple(entries[at] for at in picked)
            if is_folding(piece, constants, row_to, worth_to):
                found.append((row_to, worth_to))
    return found


def is_folding(piece, constants, row_to, worth_to):
    """Whether numbers and entries, each of them let by somewhere, make a folding."""
    if list(dict.fromkeys(row_to)) != list(range(len(set(row_to)))):
        return False
    numbers = [entry[1] for entry in worth_to if entry[0] == "unknown"]
    if list(dict.fromkeys(numbers)) != list(range(len(set(numbers)))):
        return False
    words = {"number": "int", "text": "text"}
    kinds = {}
    for entry, kind in zip(worth_to, piece.kinds):
        if (kinds.setdefault(entry, kind) if entry[0] == "unknown" else words[entry[0]]) != kind:
            return False
    rows = {}
    for block, (table, worths) in zip(row_to, piece.rows):
        row = (table, tuple(worth_to[worth[1]] if worth[0] == "unknown" else worth for worth in worths))
        if rows.setdefault(block, row) != row:
            return False
    return True


class FoldingsTest(unittest.TestCase):
    def test_foldings(self):
        self.assertEqual(list(foldings_of(NOTHING, (A,))), [((), ())])
        self.assertEqual(list(foldings_of(LOOP, ())), [((0,), (u(0),))])
        self.assertEqual(list(foldings_of(LOOP, (B, ZERO, A))), [((0,), (B,)), ((0,), (A,)), ((0,), (u(0),))])
        self.assertEqual(list(foldings_of(EDGE, (A,))),
                         [((0,), (A, A)), ((0,), (A, u(0))), ((0,), (u(0), A)), ((0,), (u(0), u(0))), ((0,), (u(0), u(1)))])
        self.assertEqual(list(foldings_of(CHAIN, ())), [
            ((0, 0), (u(0), u(0), u(0))),
            ((0, 1), (u(0), u(0), u(0))), ((0, 1), (u(0), u(0), u(1))), ((0, 1), (u(0), u(1), u(0))),
            ((0, 1), (u(0), u(1), u(1))), ((0, 1), (u(0), u(1), u(2))),
        ])
        # rows of unlike tables, and unlike constants, come to no block
        mixed = Piece((("edge", (A, u(0))), ("mark", (A, u(1))), ("edge", (B, u(0)))), ("text", "int"), ())
        self.assertEqual(list(foldings_of(mixed, ())), [((0, 1, 2), (u(0), u(1)))])
        self.assertEqual([row_to for row_to, _ in foldings_of(Piece((("on", ()),) * 3, (), ()), ())],
                         [(0, 0, 0), (0, 0, 1), (0, 1, 0), (0, 1, 1), (0, 1, 2)])
        # a constant of the piece alone in a block
        row = Piece((("edge", (A, u(0))), ("edge", (u(1), B))), ("text", "text"), ())
        self.assertEqual([found for found in foldings_of(row, (A, B)) if found[0] == (0, 0)], [((0, 0), (B, A))])
        self.assertTrue(inspect.isgeneratorfunction(foldings_of))

    def test_by_chance(self):
        chance = random.Random(302)
        found = 0
        for _ in range(150):
            piece = small_piece(chance)
            constants = list(constants_of([piece])) + chance.sample([("text", "c"), ("number", 5)], chance.randrange(2))
            chance.shuffle(constants)
            before = list(constants)
            due = all_foldings(piece, constants)
            self.assertEqual(list(foldings_of(piece, constants)), due)
            self.assertEqual(list(foldings_of(piece, tuple(constants))), due)
            self.assertEqual(constants, before)
            for folding in due:
                self.assertIsNone(folding_fault(piece, constants, folding))
            found += len(due)
        self.assertGreater(found, 1000)

    def test_each_word(self):
        constants = (A, B, ZERO)
        mark = Piece((("mark", (u(0), u(1))), ("mark", (u(2), u(1)))), ("text", "int", "text"), (u(1),))
        for piece, folding, due in (
            (CHAIN, ((0, 1), (u(0), u(1), u(2))), None),
            (CHAIN, [[0, 1], [u(0), u(1), u(2)]], None),
            (CHAIN, ((0, 0), (A, A, A)), None),
            (NOTHING, ((), ()), None),
            (CHAIN, None, "shape"),
            (CHAIN, (), "shape"),
            (CHAIN, ((0, 1),), "shape"),
            (CHAIN, ((0, 1), (u(0), u(1), u(2)), ()), "shape"),
            (CHAIN, (None, (u(0), u(1), u(2))), "shape"),
            (CHAIN, ((0, 1), None), "shape"),
            (CHAIN, ("01", (u(0), u(1), u(2))), "shape"),
            (CHAIN, ((0,), (u(0), u(1), u(2))), "shape"),
            (CHAIN, ((0, 1, 2), (u(0), u(1), u(2))), "shape"),
            (CHAIN, ((0, 1), (u(0), u(1))), "shape"),
            (CHAIN, ((0, 1), (u(0), u(1), u(2), u(3))), "shape"),
            (NOTHING, ((0,), ()), "shape"),
            (CHAIN, ((1, 0), (u(0), u(1), u(2))), "rows"),
            (CHAIN, ((1, 1), (u(0), u(1), u(2))), "rows"),
            (CHAIN, ((0, 2), (u(0), u(1), u(2))), "rows"),
            (CHAIN, ((0, -1), (u(0), u(1), u(2))), "rows"),
            (CHAIN, ((0, True), (u(0), u(1), u(2))), "rows"),
            (CHAIN, ((False, 1), (u(0), u(1), u(2))), "rows"),
            (CHAIN, ((0, None), (u(0), u(1), u(2))), "rows"),
            (CHAIN, ((0, "1"), None), "shape"),
            (CHAIN, ((1, 0), (None, None, None)), "rows"),
            (CHAIN, ((0, 1), (u(1), u(0), u(2))), "worths"),
            (CHAIN, ((0, 1), (u(0), u(2), u(1))), "worths"),
            (CHAIN, ((0, 1), (u(0), u(1), u(-1))), "worths"),
            (CHAIN, ((0, 1), (u(0), u(1), None)), "worths"),
            (CHAIN, ((0, 1), (u(0), u(1), "a")), "worths"),
            (CHAIN, ((0, 1), (u(0), u(1), ())), "worths"),
            (CHAIN, ((0, 1), (u(0), u(1), ["unknown", 2])), "worths"),
            (CHAIN, ((0, 1), (u(0), u(1), ("unknown", True))), "worths"),
            (CHAIN, ((0, 1), (u(0), u(1), ("text", "c"))), "worths"),
            (CHAIN, ((0, 1), (u(0), u(1), ZERO)), "worths"),
            (mark, ((0, 1), (u(0), ("number", False), u(1))), "worths"),
            (mark, ((0, 1), (u(0), ZERO, u(1))), None),
            (mark, ((0, 1), (u(0), A, u(1))), "worths"),
            (mark, ((0, 1), (u(0), u(0), u(1))), "worths"),
            (mark, ((0, 1), (u(0), u(1), u(1))), "worths"),
            (mark, ((0, 1), (u(0), u(1), u(0))), None),
            (mark, ((0, 0), (u(0), u(1), u(0))), None),
            (CHAIN, ((0, 0), (u(0), u(1), None)), "worths"),
            (CHAIN, ((1, 0), (u(0), u(1), u(2))), "rows"),
            (mark, ((0, 0), (u(0), u(1), u(2))), "block"),
            (mark, ((0, 0), (A, u(0), B)), "block"),
            (CHAIN, ((0, 0), (u(0), u(1), u(2))), "block"),
            (CHAIN, ((0, 0), (u(0), u(0), u(1))), "block"),
            (Piece((("edge", (u(0), u(0))), ("mark", (A, ZERO))), ("text",), ()), ((0, 0), (A,)), "block"),
            (Piece((("on", ()), ("edge", (A, A)), ("on", ())), (), ()), ((0, 1, 0), ()), None),
            (Piece((("on", ()), ("edge", (A, A)), ("on", ())), (), ()), ((0, 1, 1), ()), "block"),
        ):
            with self.subTest(folding=folding):
                self.assertEqual(folding_fault(piece, constants, folding), due)
                self.assertEqual(refusal(folded, piece, constants, folding), due and ("BadFolding", due))

    def test_entries_follow_the_sequence_of_constants(self):
        for constants in ((A, B), (B, A), [B, ZERO, A]):
            told = [worth_to[0] for _, worth_to in foldings_of(LOOP, constants)]
            self.assertEqual(told, [constant for constant in constants if constant != ZERO] + [u(0)])


class ImagesTest(unittest.TestCase):
    def test_folded(self):
        constants = (A,)
        self.assertEqual(folded(CHAIN, constants, ((0, 1), (u(0), u(1), u(2)))), CHAIN)
        self.assertEqual(folded(CHAIN, constants, ((0, 0), (u(0), u(0), u(0)))), Piece((("edge", (u(0), u(0))),), ("text",), (u(0), u(0))))
        self.assertEqual(folded(CHAIN, constants, ((0, 1), (A, u(0), A))),
                         Piece((("edge", (A, u(0))), ("edge", (u(0), A))), ("text",), (A, A)))
        passed = [[0, 1], [A, u(0), u(1)]]
        told = folded(CHAIN, list(constants), passed)
        self.assertEqual(told, Piece((("edge", (A, u(0))), ("edge", (u(0), u(1)))), ("text", "text"), (A, u(1))))
        passed[1].clear()
        self.assertEqual(told.shown, (A, u(1)))
        three = Piece((("edge", (u(0), u(1))), ("mark", (u(2), u(3))), ("edge", (u(4), u(1)))), ("text", "text", "text", "int", "text"), (u(4),))
        self.assertEqual(folded(three, (), ((0, 1, 0), (u(0), u(1), u(1), u(2), u(0)))),
                         Piece((("edge", (u(0), u(1))), ("mark", (u(1), u(2)))), ("text", "text", "int"), (u(0),)))

    def test_images_are_numbered_by_first_standing(self):
        chance = random.Random(303)
        for _ in range(100):
            piece = small_piece(chance)
            constants = constants_of([piece])
            for folding in list(foldings_of(piece, constants))[:60]:
                image = folded(piece, constants, listed_folding(folding))
                self.assertEqual(image, folded(piece, constants, folding))
                stood = list(dict.fromkeys(worth for _, worths in image.rows for worth in worths if worth[0] == "unknown"))
                self.assertEqual(stood, [u(number) for number in range(len(image.kinds))])
                self.assertTrue(all(worth in stood for worth in image.shown if worth[0] == "unknown"))

    def test_images_of(self):
        self.assertEqual(images_of((), (A,)), ())
        self.assertEqual(images_of([NOTHING, NOTHING], (A,)), ((NOTHING, 2),))
        loop = Piece((("edge", (u(0), u(0))),), ("text",), (u(0), u(0)))
        self.assertEqual(images_of([CHAIN, TURNED], ()), (
            (loop, 2),
            (Piece((("edge", (u(0), u(0))), ("edge", (u(0), u(0)))), ("text",), (u(0), u(0))), 2),
            (Piece((("edge", (u(0), u(0))), ("edge", (u(0), u(1)))), ("text",) * 2, (u(0), u(1))), 2),
            (Piece((("edge", (u(0), u(1))), ("edge", (u(1), u(0)))), ("text",) * 2, (u(0), u(0))), 2),
            (Piece((("edge", (u(0), u(1))), ("edge", (u(1), u(1)))), ("text",) * 2, (u(0), u(1))), 2),
            (CHAIN, 2),
        ))

    def test_by_chance(self):
        chance = random.Random(304)
        for _ in range(40):
            lot = [small_piece(chance) for _ in range(chance.randrange(3))]
            constants = constants_of(lot)
            met = [folded(piece, constants, folding) for piece in lot for folding in foldings_of(piece, constants)]
            due = []
            for image in met:
                for entry in due:
                    if renaming_of(entry[0], image) is not None:
                        entry[1] += 1
                        break
                else:
                    due.append([image, 1])
            due.sort(key=lambda entry: (len(entry[0].rows), len(entry[0].kinds)))
            self.assertEqual(images_of(lot, constants), tuple((image, count) for image, count in due))


def listed_folding(folding):
    return [list(folding[0]), list(folding[1])]


def all_laid(piece, constants, store):
    """The values of the unknowns of all layings."""
    taken = {value for _, value in constants}
    found = []
    for numbers, values in all_maps(piece, store):
        places = list(zip([table for table, _ in piece.rows], numbers))
        own = [value for worth, value in values.items() if worth[0] == "unknown"]
        if len(set(places)) == len(places) and len(set(own)) == len(own) and not taken & set(own):
            found.append(values)
    return found


class LayingsTest(unittest.TestCase):
    def test_count_laid(self):
        store = edges("ab", "bc", "bb", "cb")
        for piece, constants, shown, due in (
            (EDGE, (), ("b",), 2),               # ab, cb; bb lays one value for two unknowns
            (EDGE, (A,), ("b",), 1),
            (EDGE, (B,), ("b",), 0),
            (EDGE, [("text", "z")], ["b"], 2),
            (LOOP, (), ("b",), 1),
            (LOOP, (B,), ("b",), 0),
            (CHAIN, (), ("a", "c"), 1),
            (CHAIN, (), ("b", "b"), 0),          # the unknowns u0 and u2 would have one value
            (Piece((("edge", (u(0), u(0))),) * 2, ("text",), (u(0),)), (), ("b",), 0),    # two rows onto one
            (FREE, (), ("a",), 0),
            (NOTHING, (A,), ("a",), 1),
            (NOTHING, (A,), ("b",), 0),
            (Piece((("edge", (A, u(0))),), ("text",), (A, u(0))), (A,), ("a", "b"), 1),
        ):
            self.assertEqual(count_laid(piece, constants, store, shown), due)
        mark = Store(HEADS)
        mark.put("mark", ("7", True, 7))
        piece = Piece((("mark", (u(0), u(1))),), ("text", "int"), ())
        for constants, due in (((), 1), ((SEVEN,), 0), ((("text", "7"),), 0), ((("text", "8"), ZERO), 1)):
            self.assertEqual(count_laid(piece, constants, mark, ()), due)
        rows = Store(HEADS)
        for _ in range(3):
            rows.put("on", (True,))
        self.assertEqual(count_laid(Piece((("on", ()),) * 2, (), ()), (), rows, ()), 6)
        self.assertEqual(count_maps(Piece((("on", ()),) * 2, (), ()), rows, ()), 9)

    def test_by_chance(self):
        chance = random.Random(305)
        found = 0
        for _ in range(200):
            piece, store = small_piece(chance), any_small_store(chance)
            constants = constants_of([piece])[:chance.randrange(3)]
            laid = [shown_of(piece, values) for values in all_laid(piece, constants, store)]
            for shown in set(laid):
                self.assertEqual(count_laid(piece, constants, store, shown), laid.count(shown))
            found += len(laid)
        self.assertGreater(found, 100)

    def test_maps_are_layings_of_images(self):
        chance = random.Random(306)
        counted = 0
        for _ in range(150):
            piece, store = small_piece(chance), any_small_store(chance, 3)
            constants = list(constants_of([piece])) + chance.sample([("text", "b"), ("number", 7)], chance.randrange(3))
            constants = list(dict.fromkeys(constants))
            images = [folded(piece, constants, folding) for folding in foldings_of(piece, constants)]
            tally = tally_of([piece], store)
            none = ((("nothing",) * len(piece.shown), 0),) if piece.shown else ()
            for shown, count in tally + none:
                told = count_maps(piece, store, shown)
                self.assertEqual(told, count)
                self.assertEqual(told, sum(count_laid(image, constants, store, shown) for image in images))
                self.assertEqual(told, sum(number * count_laid(image, constants, store, shown)
                                           for image, number in images_of([piece], constants)))
                counted += told
        self.assertGreater(counted, 100)

    def test_of_programs(self):
        chance = random.Random(307)
        for _ in range(40):
            program, store = any_plain_program(chance, most=2), any_small_store(chance, 3)
            pieces = pieces_of(program)
            if not is_small(pieces):
                continue
            constants = constants_of(pieces)
            images = images_of(pieces, constants)
            for shown, count in tally_of(pieces, store):
                self.assertEqual(sum(number * count_laid(image, constants, store, shown) for image, number in images), count)
            self.assertEqual(len({str((least.rows, least.shown)) for least in [least_spelling(image) for image, _ in images]}), len(images))


class PassedTest(unittest.TestCase):
    def test_what_is_passed_stays(self):
        constants, shown = [A, B], ["b"]
        store = edges("ab", "bc")
        count_laid(EDGE, constants, store, shown)
        count_maps(EDGE, store, shown)
        images = images_of([EDGE], constants)
        self.assertEqual((constants, shown), ([A, B], ["b"]))
        constants.clear()
        self.assertEqual(images, images_of([EDGE], (A, B)))
        self.assertEqual(listed(store.rows_of("edge")), [[1, ["a", "b"]], [2, ["b", "c"]]])


if __name__ == "__main__":
    unittest.main()
