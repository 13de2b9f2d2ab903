"""[16.6] to [16.8]."""

import random
import unittest

from listasks.desk import Desk
from listasks.stories import replayed, shortened, story_of, story_text
from listasks.texts import term_of
from tests.helping import nested, refusal
from tests.making import HEADS
from tests.making_deeds import any_deed, any_desk, try_deeds
from tests.test_desk import DEPT, NAMES, state

MARKS = (("mark", (("a", "int"), ("b", "text"), ("c", "truth"))),)
EVERY = (
    (("put", "mark", (-5, "x y", True)), '(put mark (cells -5 "x y" yes))'),
    (("put", "mark", (0, "", False)), '(put mark (cells 0 "" no))'),
    (("put", "mark", ()), "(put mark (cells))"),
    (("take", "mark", 12), "(take mark 12)"),
    (("define", "f", ("fn", "x", ("name", "x"))), "(define f (fn x x))"),
    (("ask", ("one", ("truth", True))), "(ask (one (truth yes)))"),
    (("keep", "k", ("as", ("none",), ("list", "int"))), "(keep k (as (none) (list int)))"),
    (("told", "k"), "(told k)"),
    (("drop", "k"), "(drop k)"),
    (("compare", ("none",), ("one", ("text", "a"))), '(compare (none) (one "a"))'),
)
HEAD = "(tables mark (columns a int b text c truth))"


class TextTest(unittest.TestCase):
    def test_each_deed(self):
        for deed, text in EVERY:
            with self.subTest(text=text):
                self.assertEqual(story_text(MARKS, [deed]), f"(story {HEAD} {text})")
                self.assertEqual(story_of(f"(story {HEAD} {text})"), (MARKS, (deed,)))
        deeds = tuple(deed for deed, _ in EVERY)
        text = " ".join(["(story", HEAD] + [text for _, text in EVERY]) + ")"
        self.assertEqual(story_text(MARKS, deeds), text)
        self.assertEqual(story_of(text), (MARKS, deeds))
        self.assertEqual(story_text(MARKS, ()), f"(story {HEAD})")
        self.assertEqual(story_of(f"(story {HEAD})"), (MARKS, ()))

    def test_heads_in_any_order(self):
        text = "(story (tables b (columns y int x text) a (columns c truth)) (told k))"
        self.assertEqual(story_of(text), ((("a", (("c", "truth"),)), ("b", (("x", "text"), ("y", "int")))), (("told", "k"),)))

    def test_bad_texts(self):
        for text, place in (("", 0), ("(story", 6), (f"(story  {HEAD})", 7), (f"(story {HEAD}) ", len(HEAD) + 8), ("(story (text a))", 12),
                            (f"(story {HEAD} (take mark 01))", len(HEAD) + 20)):
            self.assertEqual(refusal(story_of, text), ("BadText", place))

    def test_another_shape(self):
        for text in (
            "5", "story", "()", "(story)", f"(history {HEAD})", f"(store {HEAD})",
            *[f"(story {HEAD} {deed})" for deed in (
                "told", "5", "\"told\"", "()", "(go k)", "((told) k)", "(5 k)", "(told)", "(told k k)", "(told 5)", "(told \"k\")", "(told (k))",
                "(put mark)", "(put mark cells)", "(put mark (rows 1))", "(put mark (cells (1)))", "(put mark (cells maybe))", "(put 5 (cells))",
                "(put mark (cells) 1)", "(put mark 1 \"a\" yes)", "(put mark (cells truth))", "(put mark (cells ()))",
                "(take mark 0)", "(take mark -1)", "(take mark one)", "(take mark \"1\")", "(take mark)", "(take mark 1 2)", "(take \"mark\" 1)",
                "(define f)", "(define 5 5)", "(ask)", "(ask 1 2)", "(keep (none))", "(drop)", "(compare 1)", "(compare 1 2 3)",
            )],
            # the shape is asked through and through before heads and terms
            "(story (tables) (told))",
            "(story 5 (take mark 0))",
            f"(story {HEAD} (ask (go)) (told))",
        ):
            with self.subTest(text=text):
                self.assertEqual(refusal(story_of, text), ("BadForm", "story"))

    def test_heads_then_terms(self):
        deep = nested(20, lambda term: f"(one {term})", "1")
        for text, due in (
            ("(story 5)", ("BadForm", "heads")),
            ("(story (told k))", ("BadForm", "heads")),
            ("(story (tables mark (columns a word)) (ask (go)))", ("BadForm", "heads")),
            ("(story (tables) (ask (go)))", ("BadHeads", -1, "many")),
            ("(story (tables t (columns)) (ask 1))", ("BadHeads", 0, "columns")),
            ("(story (tables t (columns a int a int)) (told k))", ("BadHeads", 0, "column")),
            (f"(story {HEAD} (ask (go)))", ("BadForm", "term")),
            (f"(story {HEAD} (told k) (ask {deep}) (ask (go)))", ("BadTerm", (0,) * 20, "depth")),
            (f"(story {HEAD} (told k) (ask (go)) (ask {deep}))", ("BadForm", "term")),
            (f"(story {HEAD} (compare 1 (record b 1 a 2)))", ("BadTerm", (), "labels")),
            (f"(story {HEAD} (compare (record b 1 a 2) (go)))", ("BadTerm", (), "labels")),
            (f"(story {HEAD} (keep k (as 1 (any 0))))", ("BadTerm", (), "kind")),
        ):
            with self.subTest(text=text):
                self.assertEqual(refusal(story_of, text), due)

    def test_deep_terms(self):
        kind = nested(11, lambda inner: ("list", inner), "int")
        deed = ("ask", nested(18, lambda term: ("one", term), ("as", ("none",), kind)))
        self.assertEqual(story_of(story_text(MARKS, [deed])), (MARKS, (deed,)))

    def test_by_chance(self):
        chance = random.Random(330)
        for _ in range(60):
            desk = any_desk(chance, 25)
            self.assertEqual(story_of(story_text(desk.heads, desk.story)), (desk.heads, desk.story))
            self.assertEqual(story_of(story_text(desk.heads, list(desk.story))), (desk.heads, desk.story))


class ReplayedTest(unittest.TestCase):
    def test_replayed(self):
        deeds = [("put", "dept", ["a"]), ("keep", "k", NAMES), ("take", "dept", 1), ("put", "dept", ("b",))]
        desk = replayed(DEPT, deeds)
        self.assertEqual(desk.perform(("told", "k")), ["b"])
        self.assertEqual(len(desk.sent), 1)
        self.assertEqual(replayed(DEPT, ()), Desk(DEPT))
        self.assertEqual(deeds[0], ("put", "dept", ["a"]))

    def test_errors(self):
        for heads, deeds, due in (
            ([], [None], ("BadHeads", -1, "many")),
            ([("dept", [("name", "word")])], (), ("BadHeads", 0, "column")),
            (DEPT, [None], ("Refused", 0)),
            (DEPT, [("put", "dept", ("a",)), ("take", "dept", 2), ("go",)], ("Refused", 1)),
            (DEPT, [("ask", NAMES), ("told", "k")], ("Refused", 1)),
        ):
            self.assertEqual(refusal(replayed, heads, deeds), due)

    def test_the_same_desk(self):
        chance = random.Random(331)
        for _ in range(40):
            desk = any_desk(chance, 25)
            other = replayed(desk.heads, desk.story)
            self.assertEqual(state(other), state(desk))
            self.assertEqual(other, desk)

    def test_cut_anywhere(self):
        chance = random.Random(332)
        for _ in range(15):
            deeds = [any_deed(chance) for _ in range(20)]
            whole = Desk(HEADS)
            told = try_deeds(whole, deeds)
            for cut in range(0, 21, 3):
                first = Desk(HEADS)
                begun = try_deeds(first, deeds[:cut])
                heads, story = story_of(story_text(first.heads, first.story))
                second = replayed(heads, story)
                self.assertEqual(begun + try_deeds(second, deeds[cut:]), told)
                self.assertEqual(state(second), state(whole))
                self.assertEqual(second, whole)


class ShortenedTest(unittest.TestCase):
    def test_shortened(self):
        desk = Desk([*MARKS, ("dept", (("name", "text"),))])
        deeds = [("put", "mark", (1, "a", True)), ("put", "mark", (2, "b", True)), ("put", "mark", (3, "c", True)),
                 ("put", "dept", ("x",)), ("take", "mark", 3), ("take", "mark", 1), ("ask", ("table", "mark"))]
        for deed in deeds:
            desk.perform(deed)
        self.assertEqual(shortened(desk), (
            ("put", "dept", ("x",)),
            ("put", "mark", (0, "", False)), ("take", "mark", 1),
            ("put", "mark", (2, "b", True)),
            ("put", "mark", (0, "", False)), ("take", "mark", 3),
        ))
        other = replayed(desk.heads, shortened(desk))
        self.assertEqual(other, desk)
        self.assertEqual(other.store_copy().following("mark"), 4)
        self.assertEqual(other.perform(("put", "mark", (4, "d", False))), 4)
        self.assertEqual(shortened(Desk(DEPT)), ())

    def test_definitions_and_kept_answers_in_their_order(self):
        keeps = [("keep", name, NAMES) for name in ("k", "m", "n")]
        defines = [("define", name, ("none",)) for name in ("f", "g", "x")]
        desk = Desk(DEPT)
        for deed in (keeps[0], defines[0], keeps[1], ("drop", "k"), ("told", "m"), defines[1], keeps[0], ("drop", "m"), keeps[2],
                     ("compare", NAMES, NAMES), defines[2]):
            desk.perform(deed)
        self.assertEqual(shortened(desk), (defines[0], defines[1], keeps[0], keeps[2], defines[2]))
        # x is bound by askings that were kept ahead of its definition
        other = replayed(desk.heads, shortened(desk))
        self.assertEqual(other, desk)
        self.assertEqual(other.kept_names, ("k", "n"))
        again = ("keep", "k", NAMES)
        desk.perform(("drop", "k"))
        self.assertEqual(shortened(desk), (defines[0], defines[1], keeps[2], defines[2]))
        self.assertEqual(refusal(desk.perform, again), ("BadProgram", "bound"))

    def test_the_same_future(self):
        chance = random.Random(333)
        taken = 0
        for _ in range(60):
            desk = any_desk(chance, 30)
            before = state(desk)
            deeds = shortened(desk)
            self.assertEqual(state(desk), before)
            taken += any(deed[0] == "take" for deed in deeds)
            other = replayed(desk.heads, deeds)
            self.assertEqual(other, desk)
            self.assertEqual(shortened(other), deeds)
            store, mate = desk.store_copy(), other.store_copy()
            self.assertEqual([store.following(table) for table, _ in HEADS], [mate.following(table) for table, _ in HEADS])
            self.assertEqual([desk.kept_program(name) for name in desk.kept_names], [other.kept_program(name) for name in desk.kept_names])
            future = [any_deed(chance) for _ in range(12)]
            self.assertEqual(try_deeds(other, future), try_deeds(desk, future))
            self.assertEqual(other, desk)
            heads, read = story_of(story_text(desk.heads, deeds))
            self.assertEqual((heads, read), (desk.heads, deeds))
        self.assertGreater(taken, 20)

    def test_terms_of_stories(self):
        desk = Desk(DEPT)
        asking = term_of("(for x (table dept) (one (field x name)))")
        self.assertEqual(asking, NAMES)
        desk.perform(["keep", "k", list(asking)])
        self.assertEqual(shortened(desk), (("keep", "k", asking),))


if __name__ == "__main__":
    unittest.main()
