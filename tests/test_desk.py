"""[16.1] to [16.5]."""

import random
import unittest

from listasks.compiling import questions_of
from listasks.desk import Desk, check_deed
from listasks.errors import AskError, Refused
from listasks.kinds import ask_count
from listasks.meaning import meaning
from listasks.programs import Program
from listasks.questions import question_text
from listasks.sameness import Parting, pairs_of, parting_of
from listasks.stores import Store
from listasks.texts import term_of
from tests.helping import listed, nested, refusal
from tests.making import HEADS
from tests.making_deeds import BAD, any_deed, any_desk, try_deeds
from tests.test_compiling import ASKING, STAFF

DEPT = [("dept", [("name", "text")])]
NAMES = ("for", "x", ("table", "dept"), ("one", ("field", ("name", "x"), "name")))
ONE = ("one", ("number", 1))


def state(desk):
    """All that can be seen of a desk."""
    store = desk.store_copy()
    kept = [(name, desk.kept_program(name).definitions, desk.kept_program(name).asking) for name in desk.kept_names]
    return (desk.heads, desk.definitions, desk.kept_names, desk.story, desk.sent, kept,
            [(store.following(table), store.rows_of(table)) for table, _ in desk.heads])


class CheckTest(unittest.TestCase):
    def test_good_deeds(self):
        for deed in (
            ("put", "dept", ()),
            ("put", "dept", (1, "a", True, -10 ** 29, "")),
            ("take", "dept", 1),
            ("take", "dept", 10 ** 30 - 1),
            ("define", "f", ("fn", "x", ("name", "x"))),
            ("ask", ("none",)),
            ("keep", "k", ("record", (("a", ("number", 1)), ("b", ("as", ("none",), ("list", "int")))))),
            ("told", "k"),
            ("drop", "k"),
            ("compare", ("none",), ONE),
        ):
            self.assertEqual(check_deed(deed), deed)
            passed = listed(deed)
            told = check_deed(passed)
            self.assertEqual(told, deed)
            self.assertEqual(passed, listed(deed))
            self.assertTrue(all(isinstance(part, tuple) for part in tuples_in(told)))

    def test_each_word(self):
        for deed, due in (
            (None, "deed"),
            ("ask", "deed"),
            (5, "deed"),
            ({}, "deed"),
            ((), "deed"),
            (("go", 1), "deed"),
            ((None, 1), "deed"),
            ((["put"], "dept", ()), "deed"),
            (("Put", "dept", ()), "deed"),
            (("put",), "parts"),
            (("put", "dept"), "parts"),
            (("put", "dept", (), 1), "parts"),
            (("take", "dept"), "parts"),
            (("define", "f"), "parts"),
            (("ask",), "parts"),
            (("ask", ("none",), ("none",)), "parts"),
            (("keep", ("none",)), "parts"),
            (("told",), "parts"),
            (("drop", "k", "k"), "parts"),
            (("compare", ("none",)), "parts"),
            (("put", "Dept", ()), "name"),
            (("put", 5, None), "name"),
            (("take", "", 0), "name"),
            (("define", "toolongname", 5), "name"),
            (("keep", None, 5), "name"),
            (("told", "1a"), "name"),
            (("drop", ()), "name"),
            (("put", "dept", None), "cells"),
            (("put", "dept", "ab"), "cells"),
            (("put", "dept", 5), "cells"),
            (("put", "dept", (None,)), "cells"),
            (("put", "dept", ("a", 10 ** 30)), "cells"),
            (("put", "dept", ["a%"]), "cells"),
            (("put", "dept", ("a" * 13,)), "cells"),
            (("put", "dept", (("a",),)), "cells"),
            (("take", "dept", 0), "number"),
            (("take", "dept", -1), "number"),
            (("take", "dept", True), "number"),
            (("take", "dept", "1"), "number"),
            (("take", "dept", None), "number"),
            (("take", "dept", 10 ** 30), "number"),
        ):
            with self.subTest(deed=deed):
                self.assertEqual(refusal(check_deed, deed), ("BadDeed", due))
                self.assertEqual(refusal(Desk(DEPT).perform, deed), ("BadDeed", due))

    def test_terms(self):
        deep = nested(20, lambda term: ("one", term), ("number", 1))
        for deed, due in (
            (("ask", 5), ("BadTerm", (), "shape")),
            (("ask", ("one", ("name", "X"))), ("BadTerm", (0,), "name")),
            (("define", "f", deep), ("BadTerm", (0,) * 20, "depth")),
            (("keep", "k", ("number", True)), ("BadTerm", (), "value")),
            (("compare", ("one", 1), ("go",)), ("BadTerm", (0,), "shape")),
            (("compare", ("none",), ("go",)), ("BadTerm", (), "shape")),
        ):
            self.assertEqual(refusal(check_deed, deed), due)


def tuples_in(thing):
    """The sequences within a thing."""
    if isinstance(thing, (list, tuple)):
        yield thing
        for part in thing:
            yield from tuples_in(part)


class NewTest(unittest.TestCase):
    def test_a_new_desk(self):
        desk = Desk([["emp", [["who", "text"], ["dept", "text"]]], ["dept", [["name", "text"]]]])
        self.assertEqual(desk.heads, (("dept", (("name", "text"),)), ("emp", (("dept", "text"), ("who", "text")))))
        self.assertEqual((desk.definitions, desk.kept_names, desk.story, desk.sent), ((), (), (), ()))
        self.assertEqual(desk.store_copy(), Store(desk.heads))
        self.assertEqual(refusal(desk.kept_program, "k"), ("NoKept", "k"))
        self.assertEqual(refusal(Desk, []), ("BadHeads", -1, "many"))
        self.assertEqual(refusal(Desk, [("dept", [("name", "word")])]), ("BadHeads", 0, "column"))

    def test_the_example(self):
        desk = Desk(DEPT)
        self.assertEqual(desk.perform(("put", "dept", ("a",))), 1)
        self.assertEqual(desk.perform(("keep", "k", NAMES)), ["a"])
        self.assertEqual(len(desk.sent), 1)
        self.assertEqual(desk.perform(("take", "dept", 1)), ("a",))
        self.assertEqual(desk.perform(("told", "k")), [])
        self.assertEqual(desk.perform(("put", "dept", ("b",))), 2)
        self.assertEqual(desk.perform(("told", "k")), ["b"])
        self.assertEqual(len(desk.sent), 1)
        self.assertEqual(len(desk.story), 6)


class DeedsTest(unittest.TestCase):
    def setUp(self):
        self.desk = Desk(STAFF)

    def test_put_and_take(self):
        perform = self.desk.perform
        self.assertEqual([perform(["put", "emp", ["a", "ann"]]), perform(("put", "emp", ("a", "bob"))), perform(("put", "dept", ("a",)))],
                         [1, 2, 1])
        self.assertEqual(perform(("take", "emp", 2)), ("a", "bob"))
        self.assertEqual(perform(("put", "emp", ("b", "cy"))), 3)
        self.assertEqual(self.desk.store_copy().rows_of("emp"), ((1, ("a", "ann")), (3, ("b", "cy"))))
        self.assertEqual(self.desk.story, (("put", "emp", ("a", "ann")), ("put", "emp", ("a", "bob")), ("put", "dept", ("a",)),
                                           ("take", "emp", 2), ("put", "emp", ("b", "cy"))))
        before = state(self.desk)
        for deed, due in (
            (("put", "zoo", ()), ("NoTable", "zoo")),
            (("put", "emp", ("a",)), ("BadRow", -1)),
            (("put", "emp", ("a", 1)), ("BadRow", 1)),
            (("take", "zoo", 1), ("NoTable", "zoo")),
            (("take", "emp", 2), ("NoRow", "emp", 2)),
            (("take", "emp", 4), ("NoRow", "emp", 4)),
        ):
            self.assertEqual(refusal(perform, deed), due)
        self.assertEqual(state(self.desk), before)
        self.assertEqual(self.desk.sent, ())

    def test_a_copy_of_the_store(self):
        self.desk.perform(("put", "dept", ("a",)))
        self.desk.perform(("take", "dept", 1))
        copy = self.desk.store_copy()
        self.assertEqual(copy.following("dept"), 2)
        copy.put("dept", ("x",))
        self.assertEqual(self.desk.perform(("put", "dept", ("b",))), 2)
        self.assertEqual(self.desk.store_copy().rows_of("dept"), ((2, ("b",)),))

    def test_define(self):
        perform = self.desk.perform
        dup = term_of("(fn x (join (one x) (one x)))")
        self.assertEqual(perform(("define", "dup", dup)), ("function", ("any", 0), ("list", ("any", 0))))
        self.assertEqual(perform(["define", "two", listed(term_of("(use dup 2)"))]), ("list", "int"))
        self.assertEqual(self.desk.definitions, (("dup", dup), ("two", term_of("(use dup 2)"))))
        self.assertEqual(perform(("define", "none", ("none",))), ("list", ("any", 0)))
        before = state(self.desk)
        for deed, due in (
            (("define", "dup", ("none",)), ("Known", "dup")),
            (("define", "dup", ("name", "nobody")), ("Known", "dup")),
            (("define", "v2", ("none",)), ("BadProgram", "name")),
            (("define", "f", term_of("(fn two two)")), ("BadProgram", "bound")),
            (("define", "x", ("none",)), ("BadProgram", "bound")),
            (("define", "f", ("name", "g")), ("Unknown", 3, (), "g")),
            (("define", "f", ("table", "zoo")), ("Unknown", 3, (), "zoo")),
            (("define", "f", term_of("(plus 1 two)")), ("Misfit", 3, ())),
            (("define", "f", term_of("(fn r (field r a))")), ("Unclear", 3, (0,))),
        ):
            self.assertEqual(refusal(perform, deed), due)
        self.assertEqual(state(self.desk), before)
        for number in range(5):
            perform(("define", f"f{number}", ("none",)))
        self.assertEqual(refusal(perform, ("define", "f9", ("none",))), ("BadProgram", "many"))
        # the first of several: the deed's own faults, Known, then the errors of Program in their order
        for deed, due in (
            (("define", "dup", ("number", True)), ("BadTerm", (), "value")),
            (("define", "dup", ("fn", "two", ("name", "nobody"))), ("Known", "dup")),
            (("define", "v2", ("fn", "two", ("name", "nobody"))), ("BadProgram", "many")),
            (("ask", ("fn", "two", ("name", "nobody"))), ("BadProgram", "bound")),
            (("ask", ("plus", ("one", ("number", 1)), ("name", "nobody"))), ("Unknown", 8, (1,), "nobody")),
            (("ask", ("one", ("plus", ("none",), ("number", 1)))), ("Misfit", 8, (0,))),
            (("ask", ("plus", ("number", 1), ("number", 1))), ("NoAnswer",)),
        ):
            self.assertEqual(refusal(perform, deed), due)
        self.assertEqual(len(self.desk.definitions), 8)
        self.assertEqual(self.desk.sent, ())

    def test_ask(self):
        perform = self.desk.perform
        for deed in (("put", "dept", ("a",)), ("put", "emp", ("a", "ann")), ("put", "emp", ("a", "bob"))):
            perform(deed)
        value = perform(("ask", term_of(ASKING)))
        self.assertEqual(value, [(("a", "a"), ("b", ["ann", "bob"]))])
        questions = questions_of(Program(STAFF, [], term_of(ASKING)))
        self.assertEqual(self.desk.sent, tuple((3, question_text(question)) for question in questions))
        value[0][1][1].clear()
        self.assertEqual(perform(("ask", term_of(ASKING))), [(("a", "a"), ("b", ["ann", "bob"]))])
        self.assertEqual([number for number, _ in self.desk.sent], [3, 3, 4, 4])
        perform(("define", "who", term_of("(fn e (field (as e (record dept text who text)) who))")))
        self.assertEqual(perform(("ask", term_of("(for e (table emp) (one (use who e)))"))), ["ann", "bob"])
        self.assertEqual(perform(("ask", ("none",))), [])
        before = state(self.desk)
        for term, due in (
            (("number", 1), ("NoAnswer",)),
            (("name", "nobody"), ("Unknown", 1, (), "nobody")),
            (term_of("(for e (table emp) (one (plus 1 (field e who))))"), ("Misfit", 1, (1, 0))),
            (term_of("(for who (table emp) (one 1))"), ("BadProgram", "bound")),
        ):
            for deed in (("ask", term), ("keep", "k", term)):
                self.assertEqual(refusal(perform, deed), due)
        self.assertEqual(state(self.desk), before)

    def test_kept_answers(self):
        perform = self.desk.perform
        perform(("put", "dept", ("a",)))
        self.assertEqual(perform(("keep", "k", term_of(ASKING))), [(("a", "a"), ("b", []))])
        self.assertEqual(perform(("keep", "all", ("table", "dept"))), [(("name", "a"),)])
        self.assertEqual(self.desk.kept_names, ("k", "all"))
        self.assertEqual(self.desk.kept_program("k"), Program(STAFF, [], term_of(ASKING)))
        self.assertEqual([number for number, _ in self.desk.sent], [1, 1, 2])
        perform(("put", "emp", ("a", "ann")))
        told = perform(("told", "k"))
        self.assertEqual(told, [(("a", "a"), ("b", ["ann"]))])
        told[0][1][1].clear()
        self.assertEqual(perform(("told", "k")), [(("a", "a"), ("b", ["ann"]))])
        self.assertEqual(refusal(perform, ("keep", "k", ("number", 1))), ("Known", "k"))
        self.assertEqual(perform(("drop", "k")), [(("a", "a"), ("b", ["ann"]))])
        self.assertEqual(self.desk.kept_names, ("all",))
        for deed in (("told", "k"), ("drop", "k"), ("told", "nobody")):
            self.assertEqual(refusal(perform, deed), ("NoKept", deed[1]))
        self.assertEqual(refusal(self.desk.kept_program, "k"), ("NoKept", "k"))
        # the name is free again, and comes last
        self.assertEqual(perform(("keep", "k", NAMES)), ["a"])
        self.assertEqual(self.desk.kept_names, ("all", "k"))
        self.assertEqual([number for number, _ in self.desk.sent], [1, 1, 2, 7])
        self.assertEqual(len(self.desk.story), 8)

    def test_definitions_behind_a_keeping(self):
        perform = self.desk.perform
        perform(("define", "f", ("fn", "y", ("one", ("name", "y")))))
        perform(("keep", "k", term_of("(for x (table dept) (use f (field x name)))")))
        perform(("define", "g", ("none",)))
        self.assertEqual([name for name, _ in self.desk.kept_program("k").definitions], ["f"])
        # a later definition may have a name that the kept asking binds
        self.assertEqual(perform(("define", "x", ("table", "dept"))), ("list", ("record", (("name", "text"),))))
        perform(("put", "dept", ("a",)))
        self.assertEqual(perform(("told", "k")), ["a"])
        self.assertEqual(refusal(perform, ("keep", "m", term_of("(for x (table dept) (one 1))"))), ("BadProgram", "bound"))

    def test_compare(self):
        perform = self.desk.perform
        perform(("put", "emp", ("a", "ann")))
        one = term_of("(for e (table emp) (one (field e who)))")
        other = term_of("(join (for f (table emp) (one (field f who))) (none))")
        self.assertEqual(perform(("compare", one, other)), ("alike", (0,)))
        both = term_of("(for e (table emp) (for f (table emp) (where (equal (field e dept) (field f dept)) (one (field e who)))))")
        word, parting = perform(("compare", both, one))
        store = Store(STAFF)
        store.put("emp", ("w1", "w1"))
        store.put("emp", ("w1", "w1"))
        self.assertEqual((word, parting), ("parted", Parting(store, ("w1",), 4, 2)))
        parting.store.take("emp", 1)
        self.assertEqual(self.desk.store_copy().rows_of("emp"), ((1, ("a", "ann")),))
        perform(("define", "who", one))
        self.assertEqual(perform(("compare", ("name", "who"), one)), ("alike", (0,)))
        before = state(self.desk)
        for left, right, due in (
            (one, ONE, ("NotAlike",)),
            (("number", 1), ("name", "nobody"), ("NoAnswer",)),
            (one, ("name", "nobody"), ("Unknown", 1, (), "nobody")),
            (term_of("(one (truth yes))"), term_of("(one (truth no))"), ("NotPlain", -1, "kind")),
            (one, term_of("(where (less 1 2) (one \"a\"))"), ("NotPlain", 0, "test")),
        ):
            self.assertEqual(refusal(perform, ("compare", left, right)), due)
        self.assertEqual(state(self.desk), before)
        self.assertEqual(self.desk.sent, ())

    def test_what_is_passed_is_not_kept(self):
        heads = listed(STAFF)
        desk = Desk(heads)
        heads[0][1][0][0] = "other"
        deed = ["put", "emp", ["a", "ann"]]
        desk.perform(deed)
        deed[2][0] = "z"
        term = listed(term_of("(for e (table emp) (one (field e who)))"))
        keep = ["keep", "k", term]
        desk.perform(keep)
        term[3][1][2] = "dept"
        keep[1] = "other"
        self.assertEqual(desk.story, (("put", "emp", ("a", "ann")), ("keep", "k", term_of("(for e (table emp) (one (field e who)))"))))
        self.assertEqual(desk.perform(("told", "k")), ["ann"])
        self.assertEqual(desk.store_copy().rows_of("emp"), ((1, ("a", "ann")),))
        self.assertEqual(desk.heads, Desk(STAFF).heads)

    def test_by_chance_beside_the_meaning(self):
        chance = random.Random(320)
        done, refused = 0, 0
        for _ in range(120):
            desk = Desk(HEADS)
            for _ in range(20):
                deed = any_deed(chance)
                before = state(desk)
                told = refusal(desk.copied().perform, deed)
                if told is not None:
                    self.assertEqual(refusal(desk.perform, deed), told)
                    self.assertEqual(state(desk), before)
                    refused += 1
                    continue
                done += 1
                self.check_deed(desk, deed, desk.perform(deed), before)
        self.assertGreater(min(done, refused), 500)

    def check_deed(self, desk, deed, told, before):
        _, definitions, names, story, sent, _, _ = before
        word = deed[0]
        self.assertEqual(desk.story, story + (check_deed(deed),))
        store = desk.store_copy()
        for name in desk.kept_names:
            program = desk.kept_program(name)
            self.assertEqual(program.definitions, desk.definitions[:len(program.definitions)])
            self.assertEqual(desk.copied().perform(("told", name)), meaning(program, store))
        if word in ("ask", "keep"):
            program = Program(HEADS, desk.definitions, deed[-1])
            self.assertEqual(told, meaning(program, store))
            new = tuple((len(story), question_text(question)) for question in questions_of(program))
            self.assertEqual(len(new), ask_count(program.kind))
            self.assertEqual(desk.sent, sent + new)
        else:
            self.assertEqual(desk.sent, sent)
        if word == "define":
            self.assertEqual(desk.definitions, definitions + ((deed[1], deed[2]),))
            self.assertEqual(told, Program(HEADS, desk.definitions, ("none",)).kinds[-1])
        else:
            self.assertEqual(desk.definitions, definitions)
        due = names + (deed[1],) if word == "keep" else tuple(name for name in names if word != "drop" or name != deed[1])
        self.assertEqual(desk.kept_names, due)
        if word == "compare":
            pair = [Program(HEADS, desk.definitions, term) for term in deed[1:]]
            self.assertEqual(told, ("alike", pairs_of(*pair)) if parting_of(*pair) is None else ("parted", parting_of(*pair)))


class AllTest(unittest.TestCase):
    def setUp(self):
        self.desk = Desk(DEPT)
        self.desk.perform(("put", "dept", ("a",)))
        self.desk.perform(("keep", "k", NAMES))
        self.deeds = [["put", "dept", ["b"]], ("take", "dept", 1), ("told", "k"), ("define", "f", NAMES), ("ask", ("name", "f")),
                      ("drop", "k"), ("keep", "m", ("name", "f")), ("put", "dept", ("c",)), ("told", "m")]
        self.told = (2, ("a",), ["b"], ("list", "text"), ["b"], ["b"], ["b"], 3, ["b", "c"])

    def test_in_order(self):
        self.assertEqual(self.desk.perform_all(self.deeds), self.told)
        self.assertEqual((self.desk.kept_names, len(self.desk.story), len(self.desk.sent)), (("m",), 11, 3))
        other = Desk(DEPT)
        self.assertEqual(other.perform_all(()), ())
        self.assertEqual(other.perform_all([("put", "dept", ("a",)), ("keep", "k", NAMES)] + self.deeds), (1, ["a"]) + self.told)
        self.assertEqual(state(other), state(self.desk))

    def test_trials(self):
        before = state(self.desk)
        self.assertEqual(self.desk.perform_all(self.deeds, keep=False), self.told)
        self.assertEqual(state(self.desk), before)
        self.assertEqual(self.desk.perform_all(self.deeds, keep=True), self.told)
        self.assertRaises(TypeError, lambda: self.desk.perform_all(self.deeds, False))

    def test_refused_at_any_index(self):
        for at in range(len(self.deeds) + 1):
            for bad in (("go",), ("put", "dept", (1,)), ("take", "dept", 9), ("told", "nobody"), ("ask", ("number", 1)), None):
                for keep in (True, False):
                    before = state(self.desk)
                    deeds = self.deeds[:at] + [bad] + self.deeds[at:]
                    self.assertEqual(refusal(lambda: self.desk.perform_all(deeds, keep=keep)), ("Refused", at))
                    self.assertEqual(state(self.desk), before)
        self.assertEqual(self.desk.perform(("told", "k")), ["a"])
        self.assertEqual(self.desk.perform(("put", "dept", ("z",))), 2)
        self.assertEqual(self.desk.perform(("told", "k")), ["a", "z"])

    def test_deeds_that_would_be_let_by_behind_the_refused_one(self):
        self.assertEqual(refusal(self.desk.perform_all, [("told", "m"), ("keep", "m", NAMES)]), ("Refused", 0))
        with self.assertRaises(AskError) as caught:
            self.desk.perform_all([("told", "k"), ("told", "m")])
        self.assertIsInstance(caught.exception, Refused)
        self.assertEqual(caught.exception.at, 1)

    def test_its_own_story(self):
        self.desk.perform_all(self.deeds)
        self.assertEqual(refusal(self.desk.perform_all, self.desk.story), ("Refused", 3))
        self.assertEqual(len(self.desk.story), 11)


class CopiedTest(unittest.TestCase):
    def test_copies_go_on_by_themselves(self):
        desk = Desk(DEPT)
        desk.perform_all([("put", "dept", ("a",)), ("put", "dept", ("b",)), ("take", "dept", 2), ("define", "f", NAMES),
                          ("keep", "k", ("name", "f"))])
        copy = desk.copied()
        self.assertEqual(copy, desk)
        self.assertEqual(state(copy), state(desk))
        self.assertEqual(copy.perform(("put", "dept", ("c",))), 3)
        self.assertEqual(copy.perform(("told", "k")), ["a", "c"])
        self.assertEqual(desk.perform(("told", "k")), ["a"])
        self.assertNotEqual(copy, desk)
        self.assertEqual(desk.perform(("put", "dept", ("d",))), 3)
        self.assertEqual(copy.perform(("take", "dept", 3)), ("c",))
        self.assertEqual(desk.perform(("told", "k")), ["a", "d"])
        copy.perform(("drop", "k"))
        self.assertEqual(desk.kept_names, ("k",))

    def test_equality(self):
        desk = Desk(DEPT)
        same = Desk([["dept", [["name", "text"]]]])
        self.assertEqual(desk, same)
        # heads, definitions, rows and their numbers, names and askings of the kept answers in order
        self.assertNotEqual(desk, Desk([("dept", [("name", "int")])]))
        for other in (None, 5, (), Store(DEPT), desk.heads):
            self.assertFalse(desk == other)
        deeds = [("put", "dept", ("a",)), ("define", "f", NAMES), ("define", "g", ("none",)), ("keep", "k", ("name", "f")),
                 ("keep", "m", ("name", "g"))]
        desk.perform_all(deeds)
        for order, equal in (((0, 1, 2, 3, 4), True), ((1, 2, 3, 4, 0), True), ((2, 1, 3, 4, 0), False), ((0, 1, 2, 4, 3), False),
                             ((1, 2, 3, 4), False), ((0, 1, 2, 3), False), ((0, 1, 3), False)):
            made = Desk(DEPT)
            made.perform_all([deeds[at] for at in order])
            self.assertEqual(made == desk, equal)
        made = Desk(DEPT)
        made.perform_all(deeds[:4] + [("keep", "m", ("name", "f"))])
        self.assertNotEqual(made, desk)
        # neither following numbers nor stories nor what was sent
        desk.perform_all([("put", "dept", ("b",)), ("take", "dept", 2), ("ask", NAMES)])
        same.perform_all(deeds)
        self.assertEqual(desk, same)
        same.perform_all([("take", "dept", 1), ("put", "dept", ("a",))])
        self.assertNotEqual(desk, same)

    def test_by_chance(self):
        chance = random.Random(321)
        for _ in range(40):
            desk = any_desk(chance, 20)
            copy = desk.copied()
            self.assertEqual(state(copy), state(desk))
            self.assertEqual(copy, desk)
            deeds = [any_deed(chance) for _ in range(10)] + [chance.choice(BAD)]
            before = state(desk)
            told = try_deeds(copy, deeds)
            self.assertEqual(state(desk), before)
            self.assertEqual(try_deeds(desk, deeds), told)
            self.assertEqual(state(desk), state(copy))


if __name__ == "__main__":
    unittest.main()
