"""[4.1] and [4.2]."""

import random
import unittest

from listasks.rules import RULES, apply_rule
from listasks.terms import free_names, same_term
from listasks.texts import term_form, term_of
from listasks.words import print_form
from tests.making import any_term, apart

# Rule, left side, right side. Upper-case letters stand for any terms: see `spelled`.
LED = (
    ("use", "(use (fn x (plus x C)) N)", "(plus N C)"),
    ("use", "(use (fn x (fn x x)) N)", "(fn x x)"),
    ("let", "(let x N (plus x x))", "(plus N N)"),
    ("let", "(let x N (let x x x))", "(let x N x)"),
    ("field", "(field (record a M b N) a)", "M"),
    ("field", "(field (record a M b N) b)", "N"),
    ("unfold", "f", "(fn x (use g x))"),
    ("as", "(as M (list int))", "M"),
    ("where", "(where C N)", "(if C N (none))"),
    ("truth", "(not (truth yes))", "(truth no)"),
    ("truth", "(not (truth no))", "(truth yes)"),
    ("truth", "(and (truth yes) D)", "D"),
    ("truth", "(and (truth no) D)", "(truth no)"),
    ("truth", "(and C (truth yes))", "C"),
    ("truth", "(and C (truth no))", "(truth no)"),
    ("truth", "(or (truth yes) D)", "(truth yes)"),
    ("truth", "(or (truth no) D)", "D"),
    ("truth", "(or C (truth yes))", "(truth yes)"),
    ("truth", "(or C (truth no))", "C"),
    ("truth", "(and (truth yes) (truth no))", "(truth no)"),
    ("truth", "(or (truth no) (truth yes))", "(truth yes)"),
    ("if", "(if (truth yes) M N)", "M"),
    ("if", "(if (truth no) M N)", "N"),
    ("fieldif", "(field (if C M N) a)", "(if C (field M a) (field N a))"),
    ("useif", "(use (if C M N) P)", "(if C (use M P) (use N P))"),
    ("fornone", "(for x (none) N)", "(none)"),
    ("forone", "(for x (one M) (join x N))", "(join M N)"),
    ("forjoin", "(for x (join M N) P)", "(join (for x M P) (for x N P))"),
    ("forfor", "(for x (for y M N) P)", "(for y M (for x N P))"),
    ("forfor", "(for x (for x M (one x)) (one x))", "(for x M (for x (one x) (one x)))"),
    ("forfor", "(for x (for y M (one y)) (fn y y))", "(for y M (for x (one y) (fn y y)))"),
    ("forif", "(for x (if C M N) P)", "(if C (for x M P) (for x N P))"),
    ("tonone", "(for x M (none))", "(none)"),
    ("itself", "(for x M (one x))", "M"),
    ("joinnone", "(join (none) M)", "M"),
    ("joinnone", "(join M (none))", "M"),
    ("joinnone", "(join (none) (none))", "(none)"),
    ("joinjoin", "(join (join M N) P)", "(join M (join N P))"),
    ("bare", "(empty (table t))", "(empty (for v1 (table t) (one (record))))"),
    ("bare", "(count (one M))", "(count (one (record)))"),
    ("bare", "(count (one (record a 1)))", "(count (one (record)))"),
    ("bare", "(count (join (one (record)) (one M)))", "(count (join (one (record)) (one (record))))"),
    ("bare", "(count (if C (none) (table t)))", "(count (if C (none) (for v1 (table t) (one (record)))))"),
    ("bare", "(count (for x M (one x)))", "(count (for x M (one (record))))"),
    ("bare", "(empty (let x (one M) (where C (join (one x) (none)))))",
     "(empty (let x (one M) (where C (join (one (record)) (none)))))"),
    ("bare", "(empty (for x (table t) (if x (table u) (for y N (one y)))))",
     "(empty (for x (table t) (if x (for v1 (table u) (one (record))) (for y N (one (record))))))"),
    ("through", "(fn x (use M x))", "M"),
    ("through", "(fn x (use (fn x x) x))", "(fn x x)"),
    ("ifrecord", "(if C (record a M b N) (record a P b D))", "(record a (if C M P) b (if C N D))"),
    ("ifrecord", "(if C (record) (record))", "(record)"),
    ("iffn", "(if C (fn x (plus x M)) (fn x (plus N x)))", "(fn x (if C (plus x M) (plus N x)))"),
    ("iffn", "(if C (fn x (plus x M)) (fn y (plus N y)))", "(fn x (if C (plus x M) (plus N x)))"),
    ("forwhere", "(for x (where C M) N)", "(where C (for x M N))"),
    ("forwhere", "(for x (where (less x 1) M) (one x))", "(where (less x 1) (for x M (one x)))"),
    ("wherefor", "(where C (for x M N))", "(for x M (where C N))"),
    ("wherejoin", "(where C (join M N))", "(join (where C M) (where C N))"),
    ("wherewhere", "(where C (where D N))", "(where (and C D) N)"),
    ("turn", "(where (and C D) N)", "(where (and D C) N)"),
    ("twice", "(where (and C C) N)", "(where C N)"),
    ("twice", "(where (and (empty (for x M (one x))) (empty (for y M (one y)))) N)",
     "(where (empty (for x M (one x))) N)"),
    ("apart", "(join (where C M) (where (not C) N))", "(if C M N)"),
    ("apart", "(join (where (empty (fn x x)) M) (where (not (empty (fn y y))) N))", "(if (empty (fn x x)) M N)"),
)

# Rule, and what is no left side of it although it looks like one.
NOT_LED = (
    ("use", "(use M (fn x x))"), ("use", "(use (if C (fn x x) M) N)"), ("let", "(use (fn x x) N)"),
    ("field", "(field M a)"), ("field", "(field (record b M) a)"), ("field", "(field (record) a)"),
    ("unfold", "h"), ("unfold", "(one f)"), ("as", "(one M)"), ("where", "(if C M N)"), ("truth", "(not C)"),
    ("truth", "(and C D)"), ("truth", "(or C D)"), ("truth", "(truth yes)"), ("truth", "(not (not (truth yes)))"),
    ("truth", "(equal (truth yes) (truth no))"), ("if", "(if C M N)"), ("if", "(where (truth yes) M)"),
    ("fieldif", "(field M a)"), ("fieldif", "(if C (field M a) (field N a))"), ("useif", "(use M (if C M N))"),
    ("fornone", "(for x M (none))"), ("forone", "(for x M (one x))"), ("forjoin", "(for x M (join M N))"),
    ("forfor", "(for x M (for y N P))"), ("forif", "(for x M (if C M N))"), ("tonone", "(for x (none) N)"),
    ("tonone", "(let x M (none))"), ("itself", "(for x M (one y))"), ("itself", "(for x M x)"),
    ("itself", "(let x M (one x))"), ("joinnone", "(join M N)"), ("joinjoin", "(join M (join N P))"),
    ("bare", "(empty (none))"), ("bare", "(count (one (record)))"), ("bare", "(count M)"), ("bare", "(total (one 1))"),
    ("bare", "(count (join (table t) M))"), ("bare", "(count (as (table t) (list int)))"),
    ("bare", "(count (use (fn x (table t)) 1))"), ("bare", "(empty (for x (table t) (one (record))))"),
    ("bare", "(empty (if C (none) (one (record))))"), ("bare", "(not (empty (table t)))"),
    ("through", "(fn x (use x x))"), ("through", "(fn x (use (plus x M) x))"), ("through", "(fn x (use M y))"),
    ("through", "(fn x M)"), ("ifrecord", "(if C (record a M) (record b M))"), ("ifrecord", "(if C (record a M) M)"),
    ("ifrecord", "(if C (record a M) (record a M b N))"), ("iffn", "(if C (fn x x) M)"), ("iffn", "(if C M (fn x x))"),
    ("forwhere", "(for x M (where C N))"), ("wherefor", "(for x M (where C N))"), ("wherefor", "(where C M)"),
    ("wherejoin", "(where C M)"), ("wherejoin", "(join (where C M) (where C N))"), ("wherewhere", "(where C M)"),
    ("turn", "(where (or C D) N)"), ("turn", "(and C D)"), ("twice", "(where (and C D) N)"),
    ("twice", "(where (or C C) N)"), ("apart", "(join (where C M) (where (not D) N))"),
    ("apart", "(join (where (not C) M) (where C N))"), ("apart", "(join (where C M) (where D N))"),
    ("apart", "(join M (where (not C) N))"), ("apart", "(join (if C M N) (where (not C) N))"),
    ("apart", "(join (where C M) (where (empty C) N))"), ("apart", "(join (where C M) (if (not C) N P))"),
)

DEFINITIONS = (("f", ("number", 1)), ("g", ("none",)), ("f", term_of("(fn x (use g x))")))
ANY = {"C": "(equal c 1)", "D": "(less d 2)", "M": "(use m 3)", "N": "(count n)", "P": "(total p)"}


def spelled(text):
    for letter, term in ANY.items():
        text = text.replace(letter, term)
    return term_of(text)


def led(rule, text):
    told = apply_rule(rule, term_of(text), DEFINITIONS)
    return None if told is None else print_form(term_form(told))


class RulesTest(unittest.TestCase):
    def test_their_names_and_order(self):
        self.assertEqual(RULES, (
            "use", "let", "field", "unfold", "as", "where", "truth", "if", "fieldif", "useif", "fornone", "forone",
            "forjoin", "forfor", "forif", "tonone", "itself", "joinnone", "joinjoin", "bare", "through", "ifrecord",
            "iffn", "forwhere", "wherefor", "wherejoin", "wherewhere", "turn", "twice", "apart"))
        self.assertEqual({rule for rule, _, _ in LED}, set(RULES))
        self.assertEqual({rule for rule, _ in NOT_LED}, set(RULES))

    def test_left_and_right_sides(self):
        for rule, left, right in LED:
            with self.subTest(rule=rule, left=left):
                self.assertEqual(apply_rule(rule, spelled(left), DEFINITIONS), spelled(right))
                self.assertEqual(apply_rule(rule, spelled(left), [list(couple) for couple in DEFINITIONS]),
                                 spelled(right))

    def test_what_is_no_left_side(self):
        for rule, term in NOT_LED:
            with self.subTest(rule=rule, term=term):
                self.assertIsNone(apply_rule(rule, spelled(term), DEFINITIONS))

    def test_the_term_as_a_whole(self):
        for rule, left, _ in LED:
            for around in (("one", spelled(left)), ("plus", spelled(left), ("number", 1))):
                self.assertIsNone(apply_rule(rule, around, DEFINITIONS), rule)

    def test_unknown_rules(self):
        for rule in ("", "rename", "USE", "us", None, 1, (), ["use"]):
            self.assertIsNone(apply_rule(rule, spelled("(use (fn x x) N)"), ()))

    def test_names_that_a_use_would_catch(self):
        self.assertEqual(led("use", "(use (fn x (fn y (plus x y))) y)"), "(fn v1 (plus y v1))")
        self.assertEqual(led("let", "(let x y (for y x (join x y)))"), "(for v1 y (join y v1))")
        self.assertEqual(led("forone", "(for x (one y) (fn y (use x y)))"), "(fn v1 (use y v1))")

    def test_large_terms(self):
        term = ("table", "t")
        for _ in range(11):
            term = ("join", term, term)
        told = apply_rule("bare", ("count", term), ())
        self.assertEqual(told[1][1], apply_rule("bare", ("count", term[1]), ())[1])
        deep = ("none",)
        for _ in range(198):
            deep = ("join", ("table", "t"), deep)
        self.assertIsNotNone(apply_rule("bare", ("empty", deep), ()))


class CaughtNamesTest(unittest.TestCase):
    """The rules that rename first, and only where they must."""

    def same(self, rule, left, right):
        told = apply_rule(rule, term_of(left), ())
        self.assertTrue(same_term(told, term_of(right)), print_form(term_form(told)))

    def test_forfor(self):
        self.same("forfor", "(for x (for y m (one (plus y n))) (one (plus x y)))",
                  "(for z m (for x (one (plus z n)) (one (plus x y))))")
        self.same("forfor", "(for x (for y y (one y)) (one y))", "(for z y (for x (one z) (one y)))")
        self.same("forfor", "(for x (for v1 m (one (plus x v1))) (one (plus v1 v2)))",
                  "(for z m (for x (one (plus x z)) (one (plus v1 v2))))")

    def test_wherefor(self):
        self.same("wherefor", "(where x (for x m (one x)))", "(for z m (where x (one z)))")
        self.same("wherefor", "(where (less x v1) (for x x (one (plus x v2))))",
                  "(for z x (where (less x v1) (one (plus z v2))))")
        self.same("wherefor", "(where y (for x m (one x)))", "(for x m (where y (one x)))")

    def test_iffn(self):
        self.same("iffn", "(if x (fn x x) (fn y (plus x y)))", "(fn z (if x z (plus x z)))")
        self.same("iffn", "(if c (fn x (plus x y)) (fn y (plus x y)))", "(fn z (if c (plus z y) (plus x z)))")
        self.same("iffn", "(if x (fn x x) (fn x x))", "(fn z (if x z z))")
        self.same("iffn", "(if y (fn x (plus x y)) (fn y y))", "(fn x (if y (plus x y) x))")
        self.same("iffn", "(if c (fn x x) (fn y (fn x (plus x y))))", "(fn z (if c z (fn x (plus x z))))")
        self.same("iffn", "(if v1 (fn v1 (plus v1 v2)) (fn v3 v4))", "(fn z (if v1 (plus z v2) v4))")

    def test_no_rule_frees_or_catches_a_name(self):
        chance = random.Random(42)
        seen = set()
        for _ in range(6000):
            term = any_term(chance, 4)
            for rule in RULES:
                told = apply_rule(rule, term, ())
                if told is not None:
                    seen.add(rule)
                    self.assertLessEqual(set(free_names(told)), set(free_names(term)), (rule, term))
        self.assertGreater(len(seen), 12)

    def test_renamed_terms_lead_to_the_same(self):
        """A left side with each bound name unlike all others needs no renaming."""
        for rule, left, _ in LED:
            term = spelled(left)
            one = apply_rule(rule, term, DEFINITIONS)
            other = apply_rule(rule, apart(term), DEFINITIONS)
            self.assertTrue(same_term(one, other), rule)


if __name__ == "__main__":
    unittest.main()
