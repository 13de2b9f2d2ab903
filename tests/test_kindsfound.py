"""[3.1] to [3.6], and the example [3.9]."""

import random
import unittest

from listasks.errors import Misfit, Unclear
from listasks.kindsfound import closed_kinds, found_kind, is_case_of, kinds_within, numbered_anew, put_in
from listasks.terms import check_term, free_names
from listasks.texts import kind_of, kind_text, term_of
from tests import kindsref
from tests.helping import listed, nested, refusal
from tests.making import any_term

HEADS = (("dept", (("name", "text"),)), ("emp", (("age", "int"), ("boss", "truth"), ("who", "text"))))
DUP = "(fn x (join (one x) (one x)))"
DUP_KIND = kind_of("(function (any 0) (list (any 0)))")


def found(text, known=()):
    return kind_text(found_kind(HEADS, known, term_of(text)))


def within(text, known=()):
    return {path: kind_text(kind) for path, kind in kinds_within(HEADS, known, term_of(text))}


def fault(text, known=(), call=kinds_within):
    return refusal(call, HEADS, known, term_of(text))


class UnknownTest(unittest.TestCase):
    def test_names_and_tables(self):
        self.assertEqual(fault("x"), ("Unknown", 0, (), "x"))
        self.assertEqual(fault("(one (table none))"), ("Unknown", 0, (0,), "none"))
        self.assertEqual(fault("(for x x (one x))"), ("Unknown", 0, (0,), "x"))
        self.assertEqual(fault("(let x x x)"), ("Unknown", 0, (0,), "x"))
        self.assertEqual(fault("(join (fn x x) x)"), ("Unknown", 0, (1,), "x"))
        self.assertEqual(fault("(record a y b x)"), ("Unknown", 0, (0,), "y"))
        self.assertEqual(fault("(join (for x (table u) y) z)"), ("Unknown", 0, (0, 0), "u"))

    def test_at_counts_the_known_ones(self):
        known = (("f", "int"), ("g", "int"), ("f", "int"))
        self.assertEqual(fault("(plus f (plus g h))", known), ("Unknown", 3, (1, 1), "h"))
        self.assertEqual(fault("(not f)", known), ("Misfit", 3, ()))
        self.assertEqual(fault("(fn r (field r a))", known), ("Unclear", 3, (0,)))

    def test_they_come_ahead_of_misfits(self):
        for call in (kinds_within, found_kind, closed_kinds):
            self.assertEqual(fault("(join (plus 1 (truth yes)) x)", (), call), ("Unknown", 0, (1,), "x"))

    def test_a_name_known_twice_means_the_last(self):
        self.assertEqual(found("(one f)", (("f", "int"), ("f", "text"))), "(list text)")

    def test_a_bound_name_is_not_the_known_one(self):
        known = (("f", "text"),)
        self.assertEqual(found("(let f 1 f)", known), "int")
        self.assertEqual(found("(for f (one (truth yes)) (one f))", known), "(list truth)")
        self.assertEqual(found("(fn f (plus f 1))", known), "(function int int)")
        self.assertEqual(found("(let f (one f) f)", known), "(list text)")
        self.assertEqual(found('(let x 1 (let x "a" x))'), "text")


class ConstraintsTest(unittest.TestCase):
    GOOD = (
        ("1", "int"), ('"a"', "text"), ("(truth no)", "truth"), ("(none)", "(list (any 0))"), ("(one 1)", "(list int)"),
        ("(table dept)", "(list (record name text))"), ("(record)", "(record)"),
        ('(record a 1 b "x")', "(record a int b text)"), ("(fn x 1)", "(function (any 0) int)"),
        ("(fn x x)", "(function (any 0) (any 0))"), ("(fn x (fn y x))", "(function (any 0) (function (any 1) (any 0)))"),
        ("(field (record a 1 b (none)) b)", "(list (any 0))"), ("(use (fn x (one x)) 1)", "(list int)"),
        ("(let x 1 (one x))", "(list int)"), ("(join (none) (one 1))", "(list int)"),
        ("(for x (table emp) (one (field x boss)))", "(list truth)"), ("(for x (none) (one x))", "(list (any 0))"),
        ("(where (truth yes) (none))", "(list (any 0))"), ("(if (truth yes) (none) (one 1))", "(list int)"),
        ("(plus 1 2)", "int"), ("(minus 1 2)", "int"), ("(times 1 2)", "int"), ("(less 1 2)", "truth"),
        ("(equal 1 2)", "truth"), ('(equal "a" "b")', "truth"), ("(equal (truth yes) (truth no))", "truth"),
        ("(and (truth yes) (truth no))", "truth"), ("(or (truth yes) (truth no))", "truth"),
        ("(not (truth yes))", "truth"), ("(empty (none))", "truth"), ("(count (table emp))", "int"),
        ("(total (none))", "int"), ("(total (one 1))", "int"), ("(as (none) (list text))", "(list text)"),
        ("(as (fn x x) (function int int))", "(function int int)"),
        ("(fn f (fn x (use f (use f x))))", "(function (function (any 0) (any 0)) (function (any 0) (any 0)))"),
        ("(fn l (for x l (one (plus x 1))))", "(function (list int) (list int))"),
        ("(fn l (total l))", "(function (list int) int)"), ("(fn l (count l))", "(function (list (any 0)) int)"),
        ("(fn c (if c 1 2))", "(function truth int)"), ("(fn x (as x (list int)))", "(function (list int) (list int))"),
        ("(fn x (fn y (join x y)))", "(function (list (any 0)) (function (list (any 0)) (list (any 0))))"),
    )

    def test_what_fits(self):
        for text, kind in self.GOOD:
            self.assertEqual(found(text), kind, text)

    BAD = (
        ("(use 1 2)", ()), ("(use (fn x (plus x 1)) \"a\")", ()), ("(field 1 a)", ()), ("(field (record b 1) a)", ()),
        ("(field (table emp) who)", ()), ("(join 1 (none))", ()), ("(join (none) 1)", ()),
        ('(join (one 1) (one "a"))', ()), ("(for x 1 (none))", ()), ("(for x (none) 1)", ()),
        ("(where 1 (none))", ()), ("(where (truth yes) 1)", ()), ("(if 1 1 1)", ()), ('(if (truth yes) 1 "a")', ()),
        ('(plus 1 "a")', ()), ('(minus "a" 1)', ()), ("(times 1 (none))", ()), ('(less "a" "b")', ()),
        ('(equal 1 "a")', ()), ("(equal (none) (none))", ()), ("(equal (record) (record))", ()),
        ("(equal (fn x x) (fn x x))", ()), ("(and 1 (truth yes))", ()), ("(or (truth yes) 1)", ()), ("(not 1)", ()),
        ("(empty 1)", ()), ("(count (record))", ()), ('(total (one "a"))', ()), ("(total 1)", ()),
        ("(as 1 text)", ()), ("(as (one 1) (list text))", ()), ("(as (record a 1 b 2) (record a int))", ()),
        ("(as (fn x x) (function int text))", ()), ('(fn x (join (plus x 1) (equal x "a")))', (0, 1)),
    )

    def test_what_does_not_fit(self):
        for text, path in self.BAD:
            for call in (kinds_within, found_kind, closed_kinds):
                self.assertEqual(fault(text, (), call), ("Misfit", 0, path), text)

    def test_parts_come_first_from_the_left(self):
        self.assertEqual(fault("(plus (not 1) (not 2))"), ("Misfit", 0, (0,)))
        self.assertEqual(fault('(plus "a" (not 2))'), ("Misfit", 0, (1,)))
        self.assertEqual(fault("(record a 1 b (plus 1 (none)) c (not 1))"), ("Misfit", 0, (1,)))
        self.assertEqual(fault("(if 1 (not 1) (not 1))"), ("Misfit", 0, (1,)))

    def test_a_for_asks_for_a_list_between_its_parts(self):
        self.assertEqual(fault("(for x 1 (not 1))"), ("Misfit", 0, ()))
        self.assertEqual(fault("(for x (not 1) (not 1))"), ("Misfit", 0, (0,)))
        self.assertEqual(fault("(for x (none) (not 1))"), ("Misfit", 0, (1,)))
        self.assertEqual(fault("(fn l (for x l (join l 1)))"), ("Misfit", 0, (0, 1)))
        self.assertEqual(fault("(fn l (for x l (one (use l 1))))"), ("Misfit", 0, (0, 1, 0)))

    def test_a_let_gives_one_kind_for_all_uses(self):
        self.assertEqual(found(f"(let d {DUP} (use d 1))"), "(list int)")
        self.assertEqual(fault(f'(let d {DUP} (for y (use d 1) (use d "t")))'), ("Misfit", 0, (1, 1)))

    def test_each_use_of_a_known_one_has_a_new_copy(self):
        known = (("dup", DUP_KIND),)
        self.assertEqual(found('(for y (use dup 1) (use dup "t"))', known), "(list text)")
        self.assertEqual(found("(use dup (use dup dup))", known),
                         "(list (list (function (any 0) (list (any 0)))))")
        self.assertEqual(within("(record a dup b dup)", known)[()],
                         "(record a (function (any 0) (list (any 0))) b (function (any 1) (list (any 1))))")
        self.assertEqual(known, (("dup", DUP_KIND),))


class WaitingTest(unittest.TestCase):
    def test_a_kind_within_itself(self):
        self.assertEqual(fault("(fn x (use x x))"), ("Misfit", 0, (0,)))
        self.assertEqual(fault("(fn x (join x (one x)))"), ("Misfit", 0, (0,)))
        self.assertEqual(fault("(fn x (fn y (join (join (one x) (one y)) (one (one x)))))"), ("Misfit", 0, (0, 0)))
        self.assertEqual(fault("(fn l (for x l (join x l)))"), ("Misfit", 0, (0, 1)))
        # through a field that waits
        self.assertEqual(fault("(fn r (join (one r) (one (field r a))))"), ("Misfit", 0, (0,)))
        self.assertEqual(fault("(fn r (join (field r a) (one r)))"), ("Misfit", 0, (0,)))
        self.assertEqual(fault("(fn r (fn s (join (join (one (field r a)) (one s)) (one (field s b)))))"),
                         ("Misfit", 0, (0, 0)))
        self.assertEqual(fault("(fn r (fn s (let t (join (one (field r a)) (one s)) "
                               "(join (one (field s a)) (one r)))))"), ("Misfit", 0, (0, 0, 1)))

    def test_fields_wait(self):
        text = "(fn r (let s (plus (field r a) 1) (as r (record a int b text))))"
        self.assertEqual(found(text), "(function (record a int b text) (record a int b text))")
        self.assertEqual(within(text)[(0, 0, 0, 0)], "(record a int b text)")
        self.assertEqual(found("(for x (table emp) (let r x (one (field r who))))"), "(list text)")
        use = "(use (fn r (join (one (field r a)) (one (field r b)))) (record a 1 b 2 c (none)))"
        self.assertEqual(found(use), "(list int)")

    def test_fields_of_one_label_have_one_kind(self):
        self.assertEqual(fault("(fn r (let s (plus (field r a) 1) (not (field r a))))"), ("Misfit", 0, (0, 1)))
        self.assertEqual(fault("(fn r (let s (plus (field r a) 1) (not (field r b))))"), ("Unclear", 0, (0, 0, 0)))
        self.assertEqual(fault("(fn r (fn s (let t (join (one r) (one s)) (let u (not (field r a)) "
                               "(plus (field s a) 1)))))"), ("Misfit", 0, (0, 0, 1, 1)))
        self.assertEqual(fault("(fn r (fn s (let u (not (field r a)) (let t (plus (field s a) 1) "
                               "(join (one r) (one s))))))"), ("Misfit", 0, (0, 0, 1, 1)))

    def test_fields_that_do_not_come(self):
        self.assertEqual(fault("(fn r (let s (field r a) (as r (record b int))))"), ("Misfit", 0, (0, 1)))
        self.assertEqual(fault("(fn r (let s (field r a) (plus r 1)))"), ("Misfit", 0, (0, 1)))
        self.assertEqual(fault("(fn r (let s (field r a) (use r 1)))"), ("Misfit", 0, (0, 1)))
        self.assertEqual(fault("(fn r (let s (not (field r a)) (as r (record a int))))"), ("Misfit", 0, (0, 1)))

    def test_however_many_labels_wait(self):
        asks = "r"
        for label in "abcdefg":
            asks = f"(let u (field r {label}) {asks})"
        kinds = closed_kinds(HEADS, (), term_of(f"(fn r {asks})"))
        record = "(record " + " ".join(f"{label} int" for label in "abcdefg") + ")"
        self.assertEqual(kind_text(kinds[0][1]), f"(function {record} {record})")
        self.assertEqual(fault(f"(fn r {asks})"), ("Unclear", 0, (0, 0)))

    def test_an_equal_waits(self):
        self.assertEqual(fault("(fn x (equal x x))"), ("Unclear", 0, (0,)))
        self.assertEqual(found("(fn x (let y (equal x x) (plus x 1)))"), "(function int int)")
        self.assertEqual(found('(use (fn x (equal x x)) "a")'), "truth")
        for later in ("(count x)", "(use x 1)", "(as x (record))", "(field x a)"):
            self.assertEqual(fault(f"(fn x (let y (equal x x) {later}))"), ("Misfit", 0, (0, 1)), later)
        self.assertEqual(fault("(fn x (let y (field x a) (equal x x)))"), ("Misfit", 0, (0, 1)))
        self.assertEqual(fault("(fn x (fn z (let y (equal x x) (let w (field z a) (join (one x) (one z))))))"),
                         ("Misfit", 0, (0, 0, 1, 1)))

    def test_unclear_tells_the_first_in_preorder(self):
        text = "(fn r (fn s (join (one (equal s s)) (one (equal (field r a) 1)))))"
        self.assertEqual(fault(text), ("Unclear", 0, (0, 0, 0, 0)))
        text = "(fn r (fn s (let u (plus s 1) (join (one (equal s s)) (one (equal (field r a) 1))))))"
        self.assertEqual(fault(text), ("Unclear", 0, (0, 0, 1, 1, 0, 0)))
        self.assertEqual(fault("(fn r (equal (field r a) (field r b)))"), ("Unclear", 0, (0,)))
        self.assertEqual(fault("(fn r (field (field r a) b))"), ("Unclear", 0, (0,)))
        self.assertEqual(fault("(fn r (equal 1 (field r b)))"), ("Unclear", 0, (0, 1)))
        self.assertEqual(refusal(found_kind, HEADS, (), term_of("(fn r (field r a))")), ("Unclear", 0, (0,)))

    def test_an_open_kind_that_does_not_wait_is_no_matter(self):
        self.assertEqual(found("(fn r (field (as r (record a int)) a))"), "(function (record a int) int)")
        self.assertEqual(found("(count (none))"), "int")


class NumberingTest(unittest.TestCase):
    def test_open_places_are_numbered_as_they_first_stand(self):
        self.assertEqual(within("(record a (none) b (fn x (fn y y)))"), {
            (): "(record a (list (any 0)) b (function (any 1) (function (any 2) (any 2))))",
            (0,): "(list (any 0))", (1,): "(function (any 1) (function (any 2) (any 2)))",
            (1, 0): "(function (any 2) (any 2))", (1, 0, 0): "(any 2)",
        })
        self.assertEqual(within("(use (fn x 1) (none))"), {
            (): "int", (0,): "(function (list (any 0)) int)", (0, 0): "int", (1,): "(list (any 0))",
        })
        self.assertEqual(within("(let x (none) (let y (fn z z) 1))"), {
            (): "int", (0,): "(list (any 0))", (1,): "int", (1, 0): "(function (any 1) (any 1))",
            (1, 0, 0): "(any 1)", (1, 1): "int",
        })

    def test_paths_stand_in_preorder(self):
        paths = [path for path, _ in kinds_within(HEADS, (), term_of("(if (truth yes) (one 1) (join (none) (none)))"))]
        self.assertEqual(paths, [(), (0,), (1,), (1, 0), (2,), (2, 0), (2, 1)])

    def test_closed_kinds(self):
        def closed(text):
            return {path: kind_text(kind) for path, kind in closed_kinds(HEADS, (), term_of(text))}
        self.assertEqual(closed("(fn x (equal x x))"), {
            (): "(function int truth)", (0,): "truth", (0, 0): "int", (0, 1): "int"})
        self.assertEqual(closed("(fn r (record a (none) b (equal (field r b) (field r a))))")[()],
                         "(function (record a int b int) (record a (list int) b truth))")
        self.assertEqual(closed("(fn r (not (field (field r b) c)))")[()], "(function (record b (record c truth)) truth)")
        self.assertEqual(fault("(not 1)", (), closed_kinds), ("Misfit", 0, ()))

    def test_by_another_way(self):
        chance = random.Random(34)
        known = (("x", DUP_KIND), ("y", "int"), ("x", kind_of("(function (any 0) (function (any 1) (any 0)))")),
                 ("v1", kind_of("(list (any 0))")), ("z", kind_of("(function (record a int) (any 0))")))
        seen = {}
        for _ in range(4000):
            term = any_term(chance, chance.choice((2, 3, 4, 5)))
            if chance.random() < 0.7:
                term = ("fn", "x", ("fn", "y", ("fn", "z", term)))
            if not set(free_names(term)) <= {"x", "y", "z", "v1"}:
                continue
            self.compare(term, known, seen)
        self.assertEqual(set(seen), {"good", "Misfit", "Unclear"})

    def test_what_waits_by_another_way(self):
        chance = random.Random(35)
        seen = {}
        for _ in range(4000):
            term = waiting_term(chance, chance.choice((3, 4, 5)))
            for _ in range(chance.randrange(3)):
                term = ("let", "u", waiting_term(chance, chance.choice((2, 3, 4))), term)
            self.compare(("fn", "x", ("fn", "y", ("fn", "z", term))), (("k", DUP_KIND),), seen)
        self.assertEqual(set(seen), {"good", "Misfit", "Unclear"})

    def compare(self, term, known, seen):
        heads = (("emp", (("a", "int"), ("b", "text"))),)
        told = []
        for call in (kinds_within, closed_kinds):
            try:
                told.append(call(heads, known, term))
            except (Misfit, Unclear) as error:
                told.append((error.__class__.__name__, error.path))
        self.assertEqual(told[0], kindsref.told(heads, known, term), term)
        self.assertEqual(told[1], kindsref.closed(heads, known, term), term)
        word = told[0][0] if isinstance(told[0][0], str) else "good"
        seen[word] = True
        if word == "good":
            self.assertEqual(found_kind(heads, known, term), told[0][0][1])


def waiting_term(chance, deep):
    """A term with many fields and equals of few names."""
    if deep <= 1 or chance.random() < 0.15:
        return ("name", chance.choice("xyz"))
    word = chance.choice(("field", "field", "field", "equal", "join", "one", "record", "known", "for", "let", "use",
                          "as", "fn", "if"))
    one, other = waiting_term(chance, deep - 1), waiting_term(chance, deep - 1)
    if word == "field":
        return ("field", one, chance.choice("ab"))
    if word == "join":
        return ("join", ("one", one), ("one", other))
    if word == "one":
        return ("one", one)
    if word == "record":
        return ("record", tuple((label, waiting_term(chance, deep - 1)) for label in chance.choice(("", "a", "ab"))))
    if word == "known":
        return ("use", ("name", "k"), one)
    if word in ("for", "let"):
        return (word, chance.choice("xyz"), one, other)
    if word == "as":
        return ("as", one, chance.choice(("int", ("record", (("a", "int"),)), ("list", "int"))))
    if word == "fn":
        return ("fn", chance.choice("xyz"), one)
    if word == "if":
        return ("if", one, other, waiting_term(chance, deep - 1))
    return (word, one, other)


class LargeTest(unittest.TestCase):
    def test_deep_terms(self):
        deep = nested(199, lambda term: ("one", term), ("number", 1))
        self.assertEqual(found_kind(HEADS, (), deep), nested(199, lambda kind: ("list", kind), "int"))
        deep = nested(198, lambda term: ("fn", "y", term), ("name", "x"))
        self.assertEqual(len(kinds_within(HEADS, (), ("fn", "x", deep))), 200)

    def test_wide_terms(self):
        wide = nested(11, lambda term: ("join", term, term), ("table", "emp"))
        kinds = kinds_within(HEADS, (), ("for", "x", wide, ("one", ("name", "x"))))
        self.assertEqual(len(kinds), 4096 + 2)
        self.assertEqual({kind for _, kind in kinds[:2]}, {("list", ("record", HEADS[1][1]))})

    def test_kinds_of_many_kinds(self):
        term = ("one", nested(180, lambda inner: ("one", inner), ("name", "x")))
        many = nested(4, lambda inner: ("let", "x", term, inner), ("name", "x"))
        kind = found_kind(HEADS, (), ("let", "x", ("number", 1), many))
        self.assertEqual(kind_text(kind), "(list " * 724 + "int" + ")" * 724)
        self.assertEqual(kind_text(numbered_anew(("list", kind))), "(list " * 725 + "int" + ")" * 725)
        chosen = is_case_of(kind, nested(700, lambda inner: ("list", inner), ("any", 0)))
        self.assertEqual(chosen, (nested(24, lambda inner: ("list", inner), "int"),))
        self.assertEqual(kind_text(put_in(nested(700, lambda inner: ("list", inner), ("any", 0)), chosen)),
                         kind_text(kind))


class ChoicesTest(unittest.TestCase):
    PAIR = kind_of("(function (any 1) (record a (any 0) b (list (any 1))))")

    def test_put_in(self):
        self.assertEqual(kind_text(put_in(self.PAIR, ("int", ("any", 0)))),
                         "(function (any 0) (record a int b (list (any 0))))")
        self.assertEqual(put_in("int", ()), "int")
        self.assertEqual(put_in(("any", 0), [("list", "int"), "text"]), ("list", "int"))

    def test_put_in_is_refused(self):
        self.assertEqual(refusal(put_in, self.PAIR, ("int",)), ("BadChoices", 1))
        self.assertEqual(refusal(put_in, self.PAIR, ()), ("BadChoices", 1))
        self.assertEqual(refusal(put_in, ("list", ("any", 7)), ("int",) * 7), ("BadChoices", 7))
        kind = kind_of("(record a (any 3) b (any 9) c (any 2))")
        self.assertEqual(refusal(put_in, kind, ("int",)), ("BadChoices", 3))
        self.assertEqual(refusal(put_in, kind, ("int",) * 4), ("BadChoices", 9))

    def test_numbered_anew(self):
        self.assertEqual(kind_text(numbered_anew(self.PAIR)), "(function (any 0) (record a (any 1) b (list (any 0))))")
        self.assertEqual(numbered_anew("text"), "text")
        self.assertEqual(kind_text(numbered_anew(kind_of("(record a (any 7) b (any 7) c (any 2))"))),
                         "(record a (any 0) b (any 0) c (any 1))")

    def test_is_case_of(self):
        general = numbered_anew(self.PAIR)
        kind = kind_of("(function int (record a text b (list int)))")
        self.assertEqual(is_case_of(kind, general), ("int", "text"))
        self.assertEqual(is_case_of(general, general), (("any", 0), ("any", 1)))
        self.assertEqual(is_case_of("int", ("any", 0)), ("int",))
        self.assertEqual(is_case_of("int", "int"), ())
        twice = kind_of("(function (any 5) (record a (any 5) b (list (any 5))))")
        self.assertEqual(is_case_of(twice, general), (("any", 5), ("any", 5)))

    def test_is_no_case_of(self):
        general = numbered_anew(self.PAIR)
        for text in ("int", "(any 0)", "(list int)", "(function int int)", "(function int (record a text))",
                     "(function int (record a text c (list int)))", "(function int (record a text b (list text)))",
                     "(function (any 0) (record a int b (list (any 1))))", "(function int (record a text b int))"):
            self.assertIsNone(is_case_of(kind_of(text), general), text)
        self.assertIsNone(is_case_of(("any", 0), "int"))
        self.assertIsNone(is_case_of("text", "int"))

    def test_cases_by_chance(self):
        chance = random.Random(36)
        some = ("int", ("list", "text"), ("any", 4), ("record", (("a", ("any", 0)),)))
        for _ in range(300):
            general = numbered_anew(any_kind(chance, 4))
            choices = tuple(chance.choice(some) for _ in range(4))
            kind = put_in(general, choices)
            chosen = is_case_of(kind, general)
            self.assertEqual(put_in(general, chosen), kind)
            self.assertEqual(chosen, choices[:len(chosen)])


def any_kind(chance, deep):
    word = chance.choice(("int", "any", "any", "list", "record", "function")) if deep > 1 else "any"
    if word == "int":
        return "int"
    if word == "any":
        return ("any", chance.randrange(4))
    if word == "list":
        return ("list", any_kind(chance, deep - 1))
    if word == "record":
        return ("record", tuple((label, any_kind(chance, deep - 1)) for label in "ab"))
    return ("function", any_kind(chance, deep - 1), any_kind(chance, deep - 1))


class PassedListsTest(unittest.TestCase):
    def test_they_are_neither_changed_nor_kept(self):
        heads, known, choices = listed(HEADS), [["dup", DUP_KIND], ["n", "int"]], ["int", "text"]
        term = term_of("(for e (table emp) (use dup (field e who)))")
        told = kinds_within(heads, known, term)
        self.assertEqual((heads, known), (listed(HEADS), [["dup", DUP_KIND], ["n", "int"]]))
        self.assertEqual(told, kinds_within(HEADS, (("dup", DUP_KIND), ("n", "int")), term))
        self.assertEqual(put_in(("function", ("any", 1), ("any", 0)), choices), ("function", "text", "int"))
        self.assertEqual(choices, ["int", "text"])


class ExampleTest(unittest.TestCase):
    def test_example(self):
        self.assertEqual(found_kind(HEADS, (), check_term(term_of(DUP))), DUP_KIND)
        self.assertEqual(found('(for y (use dup 1) (use dup "t"))', (("dup", DUP_KIND),)), "(list text)")
        self.assertEqual(fault(f'(let dup {DUP} (for y (use dup 1) (use dup "t")))'), ("Misfit", 0, (1, 1)))
        self.assertEqual(fault("(fn x (use x x))"), ("Misfit", 0, (0,)))
        self.assertEqual(fault("(fn r (field r a))"), ("Unclear", 0, (0,)))


if __name__ == "__main__":
    unittest.main()
