"""[2.1] to [2.3]."""

import itertools
import re
import unittest

from listasks.words import print_form, read_form
from tests.helping import nested, refusal

ATOM = '(?:-?[1-9][0-9]{0,29}|0|[a-z][a-z0-9]{0,7}|Q)'


def is_spelling(text):
    """Whether a text is a spelling, told by making ever larger pieces of it one sign."""
    text = re.sub('"[ !#$&-\\[\\]-~]{0,12}"', "Q", text)
    if '"' in text or "F" in text or re.search(r"\(text[ )]", text):
        return False
    text = re.sub("(?<![^( ])" + ATOM + "(?![^) ])", "F", text)
    for _ in range(40):
        text = re.sub(r"\((F( F)*)?\)", "F", text)
    return text == "F"


def begins_one(text):
    """Whether some spelling begins with the text: one that ends soon is enough."""
    for between in ("", "1", "a", '"', ")"):
        for many in range(len(text) + 1):
            if is_spelling(text + between + ")" * many):
                return True
    return False


def bad_place(text):
    for place in range(len(text)):
        if not begins_one(text[:place + 1]):
            return place
    return len(text)


class SpellingTest(unittest.TestCase):
    PAIRS = (
        (0, "0"), (7, "7"), (-12, "-12"), (10 ** 29, "1" + "0" * 29), ("a", "a"), ("abcdefgh", "abcdefgh"),
        ("text", "text"), (("text", ""), '""'), (("text", "a b(c) ~"), '"a b(c) ~"'), ((), "()"), ((0,), "(0)"),
        (("a", -1, ("text", "x"), (), ("b", ())), '(a -1 "x" () (b ()))'), (("a", "text"), "(a text)"),
        (((("text", "text"),),), '(("text"))'), ((("a",), "text"), "((a) text)"), (("texts", 1), "(texts 1)"),
        ((1, 2, 3), "(1 2 3)"),
    )

    def test_there_and_back(self):
        for form, text in self.PAIRS:
            self.assertEqual(print_form(form), text)
            self.assertEqual(read_form(text), form)

    def test_print_form_of_what_cannot_be_read(self):
        self.assertEqual(print_form(10 ** 40), "1" + "0" * 40)
        self.assertEqual(print_form(-10 ** 30), "-1" + "0" * 30)
        deep = nested(3000, lambda form: (form,), ())
        self.assertEqual(print_form(deep), "(" * 3001 + ")" * 3001)
        self.assertEqual(refusal(read_form, print_form(10 ** 30)), ("BadText", 30))

    def test_examples(self):
        self.assertEqual(refusal(read_form, "(a  b)"), ("BadText", 3))
        self.assertEqual(refusal(read_form, "(text a)"), ("BadText", 5))

    def test_bad_places(self):
        cases = (
            ("", 0), (" ", 0), ("A", 0), ("a ", 1), ("a)", 1), ("-", 1), ("-0", 1), ("-a", 1), ("--1", 1), ("00", 1),
            ("01", 1), ("1a", 1), ("+1", 0), ("1 ", 1), ("(", 1), ("( ", 1), ("(a", 2), ("(a ", 3), ("(a )", 3),
            ("(a b", 4), ("()()", 2), ("() ", 2), ("(()())", 3), ("(a(", 2), ("(text", 5), ("(text)", 5),
            ("(text ", 5), ('(text"', 5), ("(a (text 1))", 8), ("text ", 4), ('"', 1), ('"a', 2), ('"a""', 3),
            ('"%"', 1), ('"a\\"', 2), ('"\n"', 1), ('("a"b)', 4), ('"\u00e9"', 1), ("a\u00e9", 1), ("\u0661", 0),
            ("1\u0661", 1), ("(1 2\n)", 4), ("(a\tb)", 2), ("a.b", 1), ("a_b", 1), ("(0 00)", 4), ("(-)", 2),
        )
        for text, place in cases:
            self.assertEqual(refusal(read_form, text), ("BadText", place), text)

    def test_long_names_numbers_and_texts(self):
        self.assertEqual(refusal(read_form, "abcdefghi"), ("BadText", 8))
        self.assertEqual(refusal(read_form, "(a abcdefghi)"), ("BadText", 11))
        self.assertEqual(read_form("9" * 30), int("9" * 30))
        self.assertEqual(read_form("-" + "9" * 30), -int("9" * 30))
        self.assertEqual(refusal(read_form, "9" * 31), ("BadText", 30))
        self.assertEqual(refusal(read_form, "-" + "9" * 31), ("BadText", 31))
        self.assertEqual(read_form('"abcdefghijkl"'), ("text", "abcdefghijkl"))
        self.assertEqual(refusal(read_form, '"abcdefghijklm"'), ("BadText", 13))
        self.assertEqual(refusal(read_form, '"abcdefghijkl'), ("BadText", 13))
        self.assertEqual(refusal(read_form, '("abcdefghijklm")'), ("BadText", 14))

    def test_forty_and_forty_one_tuples(self):
        self.assertEqual(read_form("(" * 40 + ")" * 40), nested(39, lambda form: (form,), ()))
        self.assertEqual(refusal(read_form, "(" * 41 + ")" * 41), ("BadText", 40))
        self.assertEqual(refusal(read_form, "(" * 20000), ("BadText", 40))
        self.assertEqual(read_form("(" * 40 + '"a"' + ")" * 40), nested(40, lambda form: (form,), ("text", "a")))
        self.assertEqual(refusal(read_form, "(" * 40 + "a ("), ("BadText", 42))
        wide = "(" * 39 + "() ()" + ")" * 39
        self.assertEqual(print_form(read_form(wide)), wide)

    def test_all_short_texts_by_another_way(self):
        self.assertTrue(is_spelling("(a (b 1 -2) () \"x\")"))
        self.assertFalse(is_spelling("(a  b)"))
        for signs in ("(a0) ", '(" )a', "()1 -", "(-10 "):
            for size in range(6):
                for letters in itertools.product(signs, repeat=size):
                    text = "".join(letters)
                    if is_spelling(text):
                        self.assertEqual(print_form(read_form(text)), text)
                    else:
                        self.assertEqual(refusal(read_form, text), ("BadText", bad_place(text)), text)

    def test_texts_with_one_sign_changed(self):
        text = '(for x (table emp) (one (field x "a b")) -10 text)'
        self.assertEqual(print_form(read_form(text)), text)
        for at in range(len(text)):
            for sign in '() a0"-%':
                other = text[:at] + sign + text[at + 1:]
                expected = None if is_spelling(other) else ("BadText", bad_place(other))
                self.assertEqual(refusal(read_form, other), expected, other)


if __name__ == "__main__":
    unittest.main()
