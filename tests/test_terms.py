"""[1.5] to [1.8]."""

import random
import unittest

from listasks.terms import (
    at_path,
    bound_name,
    check_term,
    children,
    depth_of,
    free_names,
    fresh_name,
    names_over,
    nodes_of,
    put_at,
    renamed,
    same_term,
    substituted,
    with_children,
)
from tests.helping import listed, nested, refusal
from tests.making import any_term, apart, unnamed

ONE = ("number", 1)
X, Y, Z = ("name", "x"), ("name", "y"), ("name", "z")
LEAVES = (ONE, ("text", "a"), ("truth", False), X, ("none",), ("table", "emp"), ("record", ()))
ONE_WORDS = ("one", "not", "empty", "count", "total")
TWO_WORDS = ("use", "join", "where", "plus", "minus", "times", "equal", "less", "and", "or")


def all_shapes():
    """A term for each word, with the children X, Y, Z in order."""
    terms = [(leaf, ()) for leaf in LEAVES]
    terms += [(("fn", "u", X), (X,)), (("field", X, "a"), (X,)), (("as", X, ("list", "int")), (X,))]
    terms += [((word, X), (X,)) for word in ONE_WORDS]
    terms += [((word, "u", X, Y), (X, Y)) for word in ("let", "for")]
    terms += [((word, X, Y), (X, Y)) for word in TWO_WORDS]
    terms += [(("if", X, Y, Z), (X, Y, Z)), (("record", (("a", X), ("b", Y))), (X, Y))]
    return terms


class PartsTest(unittest.TestCase):
    def test_children_and_with_children(self):
        for term, parts in all_shapes():
            self.assertEqual(children(term), parts)
            self.assertEqual(with_children(term, parts), term)
            others = tuple(("number", at) for at in range(len(parts)))
            changed = with_children(term, list(others))
            self.assertEqual(children(changed), others)
            self.assertEqual(changed[0], term[0])
            self.assertEqual(with_children(changed, parts), term)

    def test_bound_name(self):
        for term, parts in all_shapes():
            told = [bound_name(term, at) for at in range(len(parts))]
            expected = {"fn": ["u"], "let": [None, "u"], "for": [None, "u"]}.get(term[0], [None] * len(parts))
            self.assertEqual(told, expected, term)

    def test_paths(self):
        term = ("let", "x", ("one", ONE), ("for", "y", X, ("record", (("a", Y), ("b", ("plus", X, ONE))))))
        self.assertEqual(at_path(term, ()), term)
        self.assertEqual(at_path(term, (0, 0)), ONE)
        self.assertEqual(at_path(term, [1, 1, 1, 0]), X)
        self.assertEqual(put_at(term, (), ONE), ONE)
        changed = put_at(term, [1, 1, 1, 0], ("text", "s"))
        self.assertEqual(at_path(changed, (1, 1, 1, 0)), ("text", "s"))
        self.assertEqual(put_at(changed, (1, 1, 1, 0), X), term)
        self.assertEqual(names_over(term, ()), ())
        self.assertEqual(names_over(term, (0, 0)), ())
        self.assertEqual(names_over(term, (1,)), ("x",))
        self.assertEqual(names_over(term, (1, 0)), ("x",))
        self.assertEqual(names_over(term, (1, 1, 0)), ("x", "y"))
        self.assertEqual(names_over(("fn", "x", ("fn", "y", ("fn", "x", X))), [0, 0, 0]), ("x", "y", "x"))

    def test_paths_that_lead_nowhere(self):
        term = ("plus", ONE, ("record", (("a", X),)))
        for path in ((2,), (-1,), (0, 0), (1, 1), (1, -1), (1, 0, 0), (True,), ("a",), (None,)):
            self.assertEqual(refusal(at_path, term, path), ("NoPath", path))
            self.assertEqual(refusal(at_path, term, list(path)), ("NoPath", path))
            self.assertEqual(refusal(put_at, term, path, ONE), ("NoPath", path))
            self.assertEqual(refusal(names_over, term, path), ("NoPath", path))

    def test_nodes_and_depth(self):
        for term, parts in all_shapes():
            self.assertEqual(nodes_of(term), 1 + len(parts))
            self.assertEqual(depth_of(term), 2 if parts else 1)
        self.assertEqual(nodes_of(("plus", ("plus", ONE, ONE), ("not", ONE))), 6)
        self.assertEqual(depth_of(("plus", ("not", ("not", ONE)), ONE)), 4)

    def test_large_terms(self):
        deep = nested(200, lambda term: ("fn", "x", ("one", term)), X)
        self.assertEqual((nodes_of(deep), depth_of(deep)), (401, 401))
        self.assertEqual(at_path(deep, (0,) * 400), X)
        self.assertEqual(names_over(deep, (0,) * 400), ("x",) * 200)
        wide = nested(12, lambda term: ("join", term, term), X)
        self.assertEqual(nodes_of(wide), 8191)
        self.assertEqual(free_names(wide), ("x",))


class CheckTermTest(unittest.TestCase):
    def test_good_terms_come_back(self):
        for term, _ in all_shapes():
            self.assertEqual(check_term(term), term)
            self.assertEqual(check_term(listed(term)), term)

    def test_lists_are_neither_changed_nor_kept(self):
        term = ("record", (("a", ("as", X, ("list", "int"))), ("b", ("fn", "x", X))))
        passed = listed(term)
        made = check_term(passed)
        self.assertEqual(passed, listed(term))
        passed[1][0][1][2].clear()
        passed[1].clear()
        self.assertEqual(made, term)

    def fault(self, term):
        told = refusal(check_term, term)
        self.assertEqual(told[0], "BadTerm", term)
        self.assertEqual(refusal(check_term, listed(term)), told, term)
        return told[1:]

    def test_shape(self):
        bad = (
            None, 1, "x", (), ("x",), ("name",), ("name", "x", "y"), ("none", 1), (1, 2), (None,), (["name"], "x"),
            ("number",), ("fn", "x"), ("fn", "x", X, X), ("field", X), ("as", X), ("one",), ("one", X, X),
            ("let", "x", X), ("for", "x", X, X, X), ("use", X), ("plus", X, X, X), ("if", X, X), ("record",),
            ("record", "ab"), ("record", None), ("record", (("a",),)), ("record", (("a", X, X),)), ("record", ("ab",)),
            ("record", (("a", X), None)), ("column", 0, "a"),
        )
        for term in bad:
            self.assertEqual(refusal(check_term, term), ("BadTerm", (), "shape"), term)
            self.assertEqual(refusal(check_term, ("one", term)), ("BadTerm", (0,), "shape"), term)

    def test_name(self):
        for name in ("", "X", "1x", "abcdefghi", 1, None, ("x",)):
            for term in (("name", name), ("table", name), ("fn", name, X), ("let", name, X, X), ("for", name, X, X),
                         ("field", X, name), ("record", ((name, X),))):
                self.assertEqual(self.fault(term), ((), "name"))
        self.assertEqual(check_term(("name", "abcdefgh")), ("name", "abcdefgh"))

    def test_labels(self):
        for labels in ("ba", "aa", "abcdef", "acb"):
            self.assertEqual(self.fault(("record", tuple((label, X) for label in labels))), ((), "labels"))
        five = ("record", tuple((label, X) for label in "abcde"))
        self.assertEqual(check_term(five), five)
        self.assertEqual(self.fault(("record", tuple((label, X) for label in "bA"))), ((), "name"))
        self.assertEqual(self.fault(("record", tuple((label, X) for label in "abcdeF"))), ((), "name"))

    def test_value(self):
        bad = (("number", 10 ** 30), ("number", -10 ** 30), ("number", True), ("number", "1"), ("number", None),
               ("text", "abcdefghijklm"), ("text", "%"), ("text", 1), ("truth", 1), ("truth", "yes"),
               ("number", ("a",)))
        for term in bad:
            self.assertEqual(self.fault(term), ((), "value"))
        for term in (("number", 10 ** 30 - 1), ("text", "abcdefghijkl"), ("text", ""), ("truth", True)):
            self.assertEqual(check_term(term), term)

    def test_kind(self):
        deep = nested(12, lambda kind: ("list", kind), "int")
        for kind in ("bool", None, ("list",), ("any", 0), ("list", ("any", 1)), deep, ("record", (("B", "int"),))):
            self.assertEqual(self.fault(("as", X, kind)), ((), "kind"))
        for kind in (deep[1], ("function", "int", "int"), ("record", ())):
            self.assertEqual(check_term(("as", X, kind)), ("as", X, kind))

    def test_depth(self):
        for wrap, step in ((lambda term: ("one", term), 0), (lambda term: ("plus", ONE, term), 1)):
            good = nested(19, wrap, X)
            self.assertEqual(check_term(good), good)
            # the first node that lies 20 deep is a first child in both
            first = (step,) * 19 + (0,)
            self.assertEqual(self.fault(nested(20, wrap, X)), (first, "depth"))
            self.assertEqual(refusal(check_term, nested(20, wrap, None)), ("BadTerm", first, "depth"))
            self.assertEqual(self.fault(nested(19, wrap, ("name", "X"))), ((step,) * 19, "name"))
        self.assertEqual(refusal(check_term, nested(9000, lambda term: ("one", term), X)),
                         ("BadTerm", (0,) * 20, "depth"))

    def test_size(self):
        row = nested(8, lambda term: ("join", term, term), X)
        self.assertEqual(self.fault(row), ((), "size"))
        # 63 + 63 + 23 and the node that joins each time
        good = self.of_size(150)
        self.assertEqual((nodes_of(good), depth_of(good) <= 20), (150, True))
        self.assertEqual(check_term(listed(good)), good)
        self.assertEqual(self.fault(self.of_size(151)), ((), "size"))

    def of_size(self, size):
        """A term of so many nodes that is not deep."""
        if size <= 3:
            return nested(size - 1, lambda term: ("one", term), X)
        return ("join", self.of_size((size - 1) // 2), self.of_size(size - 1 - (size - 1) // 2))

    def test_a_fault_behind_150_good_nodes_is_not_the_first(self):
        good = self.of_size(148)
        self.assertEqual(refusal(check_term, ("join", good, ("bad",))), ("BadTerm", (1,), "shape"))
        good = self.of_size(149)
        self.assertEqual(refusal(check_term, ("join", good, ("bad",))), ("BadTerm", (), "size"))
        self.assertEqual(refusal(check_term, ("join", ("bad",), self.of_size(200))), ("BadTerm", (0,), "shape"))

    def test_the_first_bad_node_in_preorder(self):
        term = ("if", ("plus", ONE, ("name", "X")), ("number", True), ("bad",))
        self.assertEqual(refusal(check_term, term), ("BadTerm", (0, 1), "name"))
        self.assertEqual(refusal(check_term, put_at(term, (0, 1), X)), ("BadTerm", (1,), "value"))
        self.assertEqual(refusal(check_term, ("fn", "X", ("bad",))), ("BadTerm", (), "name"))
        self.assertEqual(refusal(check_term, ("as", ("bad",), "bool")), ("BadTerm", (), "kind"))
        self.assertEqual(refusal(check_term, ("record", (("b", ("bad",)), ("a", X)))), ("BadTerm", (), "labels"))


class NamesTest(unittest.TestCase):
    def test_free_names(self):
        self.assertEqual(free_names(ONE), ())
        self.assertEqual(free_names(("join", Y, ("join", X, Y))), ("x", "y"))
        self.assertEqual(free_names(("fn", "x", ("use", X, Y))), ("y",))
        self.assertEqual(free_names(("let", "x", X, X)), ("x",))
        self.assertEqual(free_names(("for", "x", Y, X)), ("y",))
        self.assertEqual(free_names(("join", ("fn", "x", X), X)), ("x",))
        self.assertEqual(free_names(("record", (("a", Z), ("b", X)))), ("x", "z"))
        self.assertEqual(free_names(("table", "x")), ())

    def test_fresh_name(self):
        self.assertEqual(fresh_name(()), "v1")
        self.assertEqual(fresh_name(("v2",)), "v1")
        self.assertEqual(fresh_name(["v2", "v1", "x"]), "v3")

    def test_substituted(self):
        self.assertEqual(substituted(X, "x", ONE), ONE)
        self.assertEqual(substituted(Y, "x", ONE), Y)
        self.assertEqual(substituted(("table", "x"), "x", ONE), ("table", "x"))
        self.assertEqual(substituted(("fn", "y", X), "x", ONE), ("fn", "y", ONE))
        self.assertEqual(substituted(("field", X, "x"), "x", Y), ("field", Y, "x"))

    def test_a_binding_of_the_name_itself(self):
        self.assertEqual(substituted(("fn", "x", X), "x", ONE), ("fn", "x", X))
        self.assertEqual(substituted(("let", "x", X, X), "x", ONE), ("let", "x", ONE, X))
        self.assertEqual(substituted(("for", "x", ("one", X), ("one", X)), "x", Y), ("for", "x", ("one", Y), ("one", X)))

    def test_names_that_would_be_caught(self):
        self.assertEqual(substituted(("fn", "y", ("use", X, Y)), "x", Y), ("fn", "v1", ("use", Y, ("name", "v1"))))
        self.assertEqual(substituted(("for", "y", ("one", Y), ("join", X, Y)), "x", Y),
                         ("for", "v1", ("one", Y), ("join", Y, ("name", "v1"))))
        # not renamed: the name is not free in the body
        self.assertEqual(substituted(("let", "y", X, Y), "x", Y), ("let", "y", Y, Y))
        self.assertEqual(substituted(("fn", "y", ("fn", "x", X)), "x", Y), ("fn", "y", ("fn", "x", X)))
        # not renamed: the part does not use it freely
        self.assertEqual(substituted(("fn", "y", X), "x", ("fn", "y", Y)), ("fn", "y", ("fn", "y", Y)))
        # renamed although the body does not use it itself
        self.assertEqual(substituted(("fn", "y", X), "x", Y), ("fn", "v1", Y))

    def test_the_new_name_is_the_first_that_is_free(self):
        v1, v2, v3 = ("name", "v1"), ("name", "v2"), ("name", "v3")
        self.assertEqual(substituted(("fn", "y", ("use", X, ("use", Y, v1))), "x", ("use", Y, v2)),
                         ("fn", "v3", ("use", ("use", Y, v2), ("use", v3, v1))))
        self.assertEqual(substituted(("fn", "y", ("use", v1, Y)), "v1", Y), ("fn", "v2", ("use", Y, v2)))
        # the new name would be caught itself further in, and so on
        self.assertEqual(substituted(("fn", "y", ("fn", "v1", ("use", X, Y))), "x", Y),
                         ("fn", "v1", ("fn", "v2", ("use", Y, v1))))

    def test_a_long_row_of_names_that_would_be_caught(self):
        term = X
        for number in range(150, 0, -1):
            term = ("fn", f"v{number}", ("use", term, ("name", f"v{number}")))
        part = ("name", "v1")
        changed = substituted(term, "x", part)
        self.assertEqual(unnamed(changed), unnamed_with(term, "x", part))

    def test_substituted_by_another_way(self):
        chance = random.Random(18)
        for _ in range(3000):
            term, part = any_term(chance, 5), any_term(chance, 3)
            changed = substituted(term, "x", part)
            self.assertEqual(unnamed(changed), unnamed_with(term, "x", part))
            if "x" not in free_names(term):
                self.assertEqual(changed, term)

    def test_renamed(self):
        self.assertEqual(renamed(("use", X, ("fn", "x", X)), "x", "z"), ("use", Z, ("fn", "x", X)))
        self.assertEqual(renamed(("fn", "z", X), "x", "z"), ("fn", "v1", Z))
        chance = random.Random(19)
        for _ in range(500):
            term = any_term(chance, 5)
            self.assertEqual(renamed(term, "x", "y"), substituted(term, "x", Y))

    def test_same_term(self):
        self.assertIs(same_term(("fn", "x", X), ("fn", "y", Y)), True)
        self.assertIs(same_term(("fn", "x", Y), ("fn", "y", Y)), False)
        self.assertIs(same_term(("fn", "x", Y), ("fn", "z", Y)), True)
        self.assertIs(same_term(X, Y), False)
        self.assertIs(same_term(("let", "x", X, X), ("let", "y", X, Y)), True)
        self.assertIs(same_term(("let", "x", X, X), ("let", "y", Y, Y)), False)
        self.assertIs(same_term(("for", "x", X, X), ("let", "x", X, X)), False)
        self.assertIs(same_term(("fn", "x", ("fn", "x", X)), ("fn", "x", ("fn", "y", X))), False)
        self.assertIs(same_term(("fn", "x", ("fn", "x", X)), ("fn", "y", ("fn", "x", X))), True)
        self.assertIs(same_term(("as", X, "int"), ("as", X, "text")), False)
        self.assertIs(same_term(("field", X, "a"), ("field", X, "b")), False)
        self.assertIs(same_term(("record", (("a", X),)), ("record", (("b", X),))), False)
        self.assertIs(same_term(("record", (("a", X),)), ("record", (("a", X), ("b", X)))), False)
        self.assertIs(same_term(("number", 1), ("number", 2)), False)
        self.assertIs(same_term(("number", 1), ("truth", True)), False)
        self.assertIs(same_term(("table", "x"), ("table", "y")), False)

    def test_same_term_by_another_way(self):
        chance = random.Random(20)
        seen = set()
        for _ in range(4000):
            one, other = any_term(chance, 3), any_term(chance, 3)
            same = same_term(one, other)
            seen.add(same)
            self.assertEqual(same, unnamed(one) == unnamed(other))
            self.assertIs(same_term(one, one), True)
        self.assertEqual(seen, {True, False})

    def test_same_term_but_for_the_names_it_binds(self):
        chance = random.Random(21)
        for _ in range(2000):
            term = any_term(chance, 5)
            other = apart(term)
            self.assertIs(same_term(term, other), True)
            self.assertIs(same_term(other, term), True)
            for name in free_names(term):
                self.assertIs(same_term(term, renamed(other, name, "w")), False)


def unnamed_with(term, name, part, around=()):
    """The unnamed form of a term in which the part stands for each free use of the name."""
    word = term[0]
    if word == "name":
        if term[1] == name and name not in around:
            return unnamed(part)
        return unnamed(term, around)
    if word == "fn":
        return ("fn", unnamed_with(term[2], name, part, around + (term[1],)))
    if word in ("let", "for"):
        return (word, unnamed_with(term[2], name, part, around),
                unnamed_with(term[3], name, part, around + (term[1],)))
    parts = tuple(unnamed_with(inner, name, part, around) for inner in children(term))
    return with_children(term, parts)


if __name__ == "__main__":
    unittest.main()
