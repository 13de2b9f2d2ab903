"""[9.2] to [9.4]."""

import random
import unittest

from listasks.forms import tree_of_form
from listasks.kinds import ask_count, list_places
from listasks.members import FlatQuestion, Member
from listasks.shredding import shred, tree_fits
from listasks.texts import kind_of
from listasks.trees import NONE
from listasks.words import read_form
from tests.flatref import cut
from tests.helping import nested, refusal
from tests.making_trees import KINDS, any_canonical
from tests.treesref import all_leaves

RECORD = ("record", (("a", "text"), ("b", ("list", "text"))))


def tree_of(text):
    return tree_of_form(read_form(text))


def row(*numbers):
    return tuple(("row", number) for number in numbers)


class FitsTest(unittest.TestCase):
    def test_trees_that_fit(self):
        for text, kind in (
            ("(none)", ("list", "int")), ("(none)", ("list", RECORD)), ("(leaf (tests) 1)", ("list", "int")),
            ("(leaf (tests) 1)", ("list", "text")), ("(leaf (tests) (empty (none)))", ("list", "text")),
            ("(leaf (tests) (record))", ("list", ("record", ()))),
            ("(for emp (parts (leaf (tests) 1) (leaf (tests) (column 0 age))))", ("list", "truth")),
            ("(leaf (tests) (record a 1 b (list (none))))", ("list", RECORD)),
            ("(leaf (tests) (record a 1 b (list (for emp (leaf (tests) (column 0 who))))))", ("list", RECORD)),
            ("(leaf (tests) (list (parts (leaf (tests) 1) (leaf (tests) 2))))", ("list", ("list", "int"))),
            ("(leaf (tests) (list (none)))", ("list", ("list", RECORD))),
        ):
            self.assertIs(tree_fits(tree_of(text), kind), True)

    def test_trees_that_do_not(self):
        for text, kind in (
            ("(leaf (tests) (record))", ("list", "int")), ("(leaf (tests) (list (none)))", ("list", "int")),
            ("(leaf (tests) 1)", ("list", ("record", ()))), ("(leaf (tests) 1)", ("list", ("list", "int"))),
            ("(leaf (tests) (list (none)))", ("list", ("record", ()))), ("(leaf (tests) (record))", ("list", ("list", "int"))),
            ("(leaf (tests) (record))", ("list", RECORD)), ("(leaf (tests) (record a 1))", ("list", RECORD)),
            ("(leaf (tests) (record a 1 b 2))", ("list", RECORD)), ("(leaf (tests) (record a 1 b (list (none)) c 2))", ("list", RECORD)),
            ("(leaf (tests) (record a 1 c (list (none))))", ("list", RECORD)),
            ("(leaf (tests) (record a (list (none)) b (list (none))))", ("list", RECORD)),
            ("(for emp (parts (leaf (tests) 1) (for emp (leaf (tests) (record)))))", ("list", "int")),
            ("(leaf (tests) (record a 1 b (list (parts (leaf (tests) 1) (leaf (tests) (record))))))", ("list", RECORD)),
        ):
            with self.subTest(text=text):
                self.assertIs(tree_fits(tree_of(text), kind), False)
                self.assertEqual(refusal(shred, tree_of(text), kind), ("NoFit",))

    def test_deep_lists(self):
        thing = nested(900, lambda part: ("list", ("leaf", (), part)), ("number", 1))
        kind = nested(900, lambda part: ("list", part), "int")
        self.assertTrue(tree_fits(thing[1], kind))
        self.assertFalse(tree_fits(("leaf", (), thing), kind))
        questions = shred(thing[1], kind)
        self.assertEqual([len(question.members) for question in questions], [1] * 900)
        self.assertEqual(questions[-1].members[0], Member((), (), (), (), (("number", 1),)))


class ShredTest(unittest.TestCase):
    def test_the_example(self):
        tree = tree_of("(for dept (leaf (tests) (record a (column 0 name) b (list (for emp (leaf"
                       " (tests (equal (column 1 dept) (column 0 name))) (column 1 who)))))))")
        test = ("equal", ("column", 1, "dept"), ("column", 0, "name"))
        self.assertEqual(shred(tree, ("list", RECORD)), (
            FlatQuestion((), (Member(("dept",), (), (), row(0), (("column", 0, "name"),)),)),
            FlatQuestion(("*", "b"), (Member(("dept", "emp"), (test,), row(0), row(1), (("column", 1, "who"),)),)),
        ))

    def test_questions_without_members(self):
        kind = kind_of("(list (record a (list (list int)) b (list text)))")
        self.assertEqual(shred(NONE, kind), tuple(FlatQuestion(place, ()) for place in list_places(kind)))
        questions = shred(tree_of("(leaf (tests) (record a (list (none)) b (list (leaf (tests) 3))))"), kind)
        self.assertEqual([len(question.members) for question in questions], [1, 0, 0, 1])
        self.assertEqual([question.place for question in questions], [(), ("*", "a"), ("*", "a", "*"), ("*", "b")])

    def test_the_empty_record(self):
        self.assertEqual(shred(tree_of("(leaf (tests) (record))"), ("list", ("record", ()))),
                         (FlatQuestion((), (Member((), (), (), (), ()),)),))

    def test_items_and_tables(self):
        tree = tree_of("(parts (leaf (tests) (list (none))) (for emp (parts (leaf (tests) (list (parts (leaf (tests) 1)"
                       " (for dept (leaf (tests) 2))))) (for emp (leaf (tests) (list (leaf (tests) 3)))))))")
        first, second = shred(tree, ("list", ("list", "int")))
        part = [("part", number) for number in range(3)]
        self.assertEqual(first.members, (
            Member((), (), (), (part[0],), ()),
            Member(("emp",), (), (), (part[1], ("row", 0), part[0]), ()),
            Member(("emp", "emp"), (), (), (part[1], ("row", 0), part[1], ("row", 1)), ()),
        ))
        self.assertEqual(second.members, (
            Member(("emp",), (), (part[1], ("row", 0), part[0]), (part[0],), (("number", 1),)),
            Member(("emp", "dept"), (), (part[1], ("row", 0), part[0]), (part[1], ("row", 1)), (("number", 2),)),
            Member(("emp", "emp"), (), (part[1], ("row", 0), part[1], ("row", 1)), (), (("number", 3),)),
        ))

    def test_tests_are_moved_and_merged(self):
        test = "(empty (for t (leaf (tests (column 9 a)) (record))))"
        around = nested(9, lambda part: f"(for t {part})",
                        "(leaf (tests (column 8 a) {}) (list (for t (leaf (tests (column 8 a) (column 9 a)) 1))))".format(test))
        first, second = shred(tree_of(around), ("list", ("list", "int")))
        lifted = ("empty", ("for", "t", ("leaf", (("column", 10, "a"),), ("record", ()))))
        self.assertEqual(first.members[0].tests[0], ("column", 8, "a"))
        self.assertEqual(second.members[0].tests, (("column", 8, "a"), ("column", 9, "a"), lifted))
        self.assertEqual(second.members[0].tables, ("t",) * 10)
        # the texts of the merged tests ascend: (column 10 a) stands ahead of (column 9 a)
        around = nested(10, lambda part: f"(for t {part})",
                        "(leaf (tests (column 9 a)) (list (for t (leaf (tests (column 10 a)) 1))))")
        self.assertEqual(shred(tree_of(around), ("list", ("list", "int")))[1].members[0].tests,
                         (("column", 10, "a"), ("column", 9, "a")))

    def test_cells_by_their_paths(self):
        kind = kind_of("(list (record a (record x int y (list int) z (record)) b text c (list int) d (record w truth)))")
        tree = tree_of("(leaf (tests) (record a (record x 1 y (list (none)) z (record)) b \"t\" c (list (leaf (tests) 5))"
                       " d (record w (truth yes))))")
        questions = shred(tree, kind)
        self.assertEqual([question.place for question in questions], [(), ("*", "a", "y"), ("*", "c")])
        self.assertEqual(questions[0].members[0].cells, (("number", 1), ("text", "t"), ("truth", True)))
        self.assertEqual(questions[1].members, ())
        self.assertEqual(questions[2].members[0].cells, (("number", 5),))

    def test_a_list_beside_a_list(self):
        kind = kind_of("(list (record a (list int) b (list (list text))))")
        tree = tree_of("(for t (leaf (tests) (record a (list (for u (leaf (tests) 1))) b (list (for w (leaf (tests)"
                       " (list (parts (leaf (tests) \"x\") (leaf (tests) \"y\")))))))))")
        questions = shred(tree, kind)
        self.assertEqual([[each.tables for each in question] for question in questions],
                         [[("t",)], [("t", "u")], [("t", "w")], [("t", "w"), ("t", "w")]])
        self.assertEqual([[each.outer for each in question] for question in questions],
                         [[()], [row(0)], [row(0)], [row(0, 1), row(0, 1)]])
        self.assertEqual([each.own for each in questions[3]], [(("part", 0),), (("part", 1),)])

    def test_by_chance(self):
        chance = random.Random(93)
        for _ in range(300):
            kind = ("list", chance.choice(KINDS))
            tree = any_canonical(chance, kind[1], deep=chance.randrange(2, 6))
            questions = shred(tree, kind)
            told = [(question.place, [(each.tables, each.tests, each.outer, each.own, each.cells) for each in question])
                    for question in questions]
            self.assertEqual(told, cut(tree, kind))
            self.assertEqual(tuple(place for place, _ in told), list_places(kind))
            self.assertEqual(len(questions), ask_count(kind))
            self.assertEqual(len(questions[0].members), len(all_leaves(tree, 0)))
            for question in questions:
                wholes = [each.whole for each in question]
                self.assertEqual(len(wholes), len(set(wholes)))
                for each in question:
                    rows = [item for item in each.whole if item[0] == "row"]
                    self.assertEqual(rows, [("row", k) for k in range(len(each.tables))])


if __name__ == "__main__":
    unittest.main()
