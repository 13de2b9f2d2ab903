"""[1.1] to [1.4]."""

import unittest

from listasks.kinds import (
    ask_count,
    check_kind,
    fits_base,
    flat_paths,
    has_function,
    has_open,
    is_answer_kind,
    is_base,
    is_name,
    kind_at,
    list_places,
    same_kind,
)
from tests.helping import listed, nested, refusal

STAFF = ("list", ("record", (("name", "text"), ("staff", ("list", ("record", (("tags", ("list", "text")),)))))))
TWO = ("record", (("a", ("list", "int")), ("b", ("list", ("list", "text")))))


class NamesTest(unittest.TestCase):
    def test_names(self):
        for name in ("a", "z", "a1", "emp", "abcdefgh", "a1234567", "text"):
            self.assertIs(is_name(name), True, name)

    def test_other_things(self):
        others = ("", "abcdefghi", "1a", "1", "A", "aB", "a_b", "a b", "a-", "_", " a", "a ", "\u00e9", "a\u00e9",
                  "a\u0661", "a\n", 1, None, True, ("a",), ["a"], b"a", {})
        for thing in others:
            self.assertIs(is_name(thing), False, thing)


class CheckKindTest(unittest.TestCase):
    def test_good_kinds_come_back(self):
        kinds = ("int", "text", "truth", ("list", "int"), ("record", ()), ("any", 0), ("any", 17), STAFF, TWO,
                 ("function", ("any", 0), ("list", ("any", 0))),
                 ("record", tuple((label, "int") for label in "abcde")))
        for kind in kinds:
            self.assertEqual(check_kind(kind), kind)
            self.assertEqual(check_kind(listed(kind)), kind)

    def test_lists_are_neither_changed_nor_kept(self):
        passed = listed(STAFF)
        made = check_kind(passed)
        self.assertEqual(passed, listed(STAFF))
        passed[1][1].clear()
        self.assertEqual(made, STAFF)

    def test_what_is_no_kind(self):
        others = (
            None, 1, True, "", "list", "record", "any", "bool", (), [], ("int",), ("list",), ("list", "int", "int"),
            ("list", "bool"), ("list", None), ("function", "int"), ("function", "int", "int", "int"),
            ("function", "int", "x"), ("any",), ("any", -1), ("any", True), ("any", "0"), ("any", 0, 0),
            ("any", None), ("record",), ("record", "a", "int"), ("record", None), ("record", (), ()),
            ("some", 0), ("record", "ab"),
            ("record", (("a", "int", 1),)), ("record", (("a",),)), ("record", ("ab",)), ("record", (("A", "int"),)),
            ("record", ((1, "int"),)), ("record", (("b", "int"), ("a", "int"))),
            ("record", (("a", "int"), ("a", "int"))), ("record", (("a", "bool"),)),
            ("record", tuple((label, "int") for label in "abcdef")), ("table", "int"), (["list"], "int"),
            {"list": 1}, ("record", {"a": "int"}),
        )
        for thing in others:
            self.assertEqual(refusal(check_kind, thing), ("BadKind",), thing)

    def test_twelve_deep_and_thirteen_deep(self):
        wraps = (
            lambda kind: ("list", kind),
            lambda kind: ("record", (("a", "int"), ("b", kind))),
            lambda kind: ("function", "int", kind),
            lambda kind: ("function", kind, "int"),
        )
        for wrap in wraps:
            for inner in ("int", ("any", 0), ("record", ())):
                deep = nested(11, wrap, inner)
                self.assertEqual(check_kind(listed(deep)), deep)
                self.assertEqual(refusal(check_kind, wrap(deep)), ("BadKind",))
        self.assertEqual(refusal(check_kind, nested(5000, wraps[0], "int")), ("BadKind",))


class AskedOfKindsTest(unittest.TestCase):
    def test_is_base(self):
        self.assertEqual([is_base(kind) for kind in ("int", "text", "truth")], [True] * 3)
        for kind in (("list", "int"), ("record", ()), ("any", 0), ("function", "int", "int")):
            self.assertIs(is_base(kind), False)

    def test_has_open_and_has_function(self):
        inner = ("record", (("a", "int"), ("b", ("list", ("any", 3)))))
        self.assertIs(has_open(inner), True)
        self.assertIs(has_open(("function", inner, "int")), True)
        self.assertIs(has_open(("function", "int", ("any", 0))), True)
        self.assertIs(has_open(STAFF), False)
        self.assertIs(has_function(STAFF), False)
        self.assertIs(has_function(("list", ("record", (("a", ("function", "int", "int")),)))), True)
        self.assertIs(has_function(inner), False)

    def test_is_answer_kind(self):
        self.assertIs(is_answer_kind(STAFF), True)
        self.assertIs(is_answer_kind(("list", "int")), True)
        self.assertIs(is_answer_kind(("list", ("record", ()))), True)
        for kind in ("int", TWO, ("any", 0), ("list", ("any", 0)), ("list", ("function", "int", "int")),
                     ("function", ("list", "int"), ("list", "int"))):
            self.assertIs(is_answer_kind(kind), False, kind)

    def test_kinds_deeper_than_calls_can_go(self):
        deep = nested(3000, lambda kind: ("list", kind), "int")
        self.assertIs(is_answer_kind(deep), True)
        self.assertEqual(ask_count(deep), 3000)
        self.assertIs(same_kind(deep, nested(3000, lambda kind: ("list", kind), "int")), True)
        self.assertIs(same_kind(deep, nested(3000, lambda kind: ("list", kind), "text")), False)


class PlacesTest(unittest.TestCase):
    def test_list_places(self):
        self.assertEqual(list_places("int"), ())
        self.assertEqual(list_places(("any", 0)), ())
        self.assertEqual(list_places(("list", "int")), ((),))
        self.assertEqual(list_places(STAFF), ((), ("*", "staff"), ("*", "staff", "*", "tags")))
        self.assertEqual(list_places(TWO), (("a",), ("b",), ("b", "*")))
        self.assertEqual(list_places(("list", TWO)), ((), ("*", "a"), ("*", "b"), ("*", "b", "*")))

    def test_nothing_leads_into_a_function(self):
        kind = ("record", (("f", ("function", ("list", "int"), ("list", "int"))), ("g", ("list", "int"))))
        self.assertEqual(list_places(kind), (("g",),))
        self.assertEqual(list_places(("function", ("list", "int"), "int")), ())

    def test_ask_count(self):
        for kind in ("int", STAFF, TWO, ("list", TWO)):
            self.assertEqual(ask_count(kind), len(list_places(kind)))

    def test_kind_at(self):
        self.assertEqual(kind_at(STAFF, ()), STAFF)
        self.assertEqual(kind_at("int", ()), "int")
        self.assertEqual(kind_at(STAFF, ("*",)), STAFF[1])
        self.assertEqual(kind_at(STAFF, ["*", "name"]), "text")
        self.assertEqual(kind_at(STAFF, ("*", "staff", "*", "tags", "*")), "text")
        function = ("function", "int", "int")
        self.assertEqual(kind_at(("list", function), ("*",)), function)
        for place in list_places(STAFF):
            self.assertEqual(kind_at(STAFF, place)[0], "list")

    def test_kind_at_leads_nowhere(self):
        cases = (
            ("int", ("*",)), ("int", ("i",)), (STAFF, ("name",)), (STAFF, ("*", "*")), (STAFF, ("*", "none")),
            (STAFF, ("*", "name", "*")), (("function", "int", "int"), ("*",)), (("any", 0), ("*",)),
            (("record", ()), ("a",)), (("list", "int"), (0,)), (TWO, ("a", "*", "*")),
        )
        for kind, steps in cases:
            self.assertEqual(refusal(kind_at, kind, steps), ("NoPlace", steps))
            self.assertEqual(refusal(kind_at, kind, list(steps)), ("NoPlace", steps))

    def test_flat_paths(self):
        self.assertEqual(flat_paths("int"), ((),))
        for kind in (("list", "int"), ("function", "int", "int"), ("any", 0), ("record", ())):
            self.assertEqual(flat_paths(kind), ())
        inner = ("record", (("x", "text"), ("y", ("record", (("z", "truth"),)))))
        kind = ("record", (("a", "int"), ("b", ("list", "int")), ("c", inner), ("d", ("function", "int", "int"))))
        self.assertEqual(flat_paths(kind), (("a",), ("c", "x"), ("c", "y", "z")))


class FitsBaseTest(unittest.TestCase):
    def test_integers(self):
        for value in (0, -1, 10 ** 30 - 1, 1 - 10 ** 30):
            self.assertIs(fits_base(value, "int"), True)
        for value in (10 ** 30, -10 ** 30, True, False, "1", None, 1.0, (1,), [1]):
            self.assertIs(fits_base(value, "int"), False, value)

    def test_texts(self):
        for value in ("", "a", " ", "~", "abcdefghijkl", "A.b-C(d)!#$&'", "012345678901"):
            self.assertIs(fits_base(value, "text"), len(value) <= 12, value)
        for value in ("abcdefghijklm", "\n", "\t", '"', "\\", "%", "a%b", "\u00e9", "\x7f", "\x1f", 1, None, ("a",)):
            self.assertIs(fits_base(value, "text"), False, value)
        for code in range(0, 300):
            good = 32 <= code <= 126 and chr(code) not in '"\\%'
            self.assertIs(fits_base(chr(code), "text"), good, code)

    def test_truths(self):
        self.assertIs(fits_base(True, "truth"), True)
        self.assertIs(fits_base(False, "truth"), True)
        for value in (0, 1, "yes", None, ()):
            self.assertIs(fits_base(value, "truth"), False, value)


if __name__ == "__main__":
    unittest.main()
