"""[4.3] to [4.8]."""

import random
import unittest

from listasks.chains import judge_chain, led_by, on_steps, settled_program, settling_steps, turned_chain
from listasks.meaning import meaning
from listasks.programs import Program
from listasks.rules import RULES, apply_rule
from listasks.stores import Store
from listasks.terms import at_path, check_term, children, names_over, put_at, same_term
from listasks.texts import term_of
from tests.helping import listed, nested, refusal
from tests.making import DEFINITIONS, HEADS, any_asking, any_store

DEPT = (("dept", (("name", "text"),)),)
DEFINED = (("dup", term_of("(fn x (join (one x) (one x)))")), ("n", ("number", 3)))


def asked(text, definitions=DEFINED):
    return Program(DEPT, definitions, term_of(text))


def step(path, rule, way, text):
    return (path, rule, way, term_of(text))


class JudgeTest(unittest.TestCase):
    def setUp(self):
        self.program = asked("(join (use dup n) (where (truth yes) (one 1)))")

    def word(self, *steps):
        told = judge_chain(self.program, steps)
        self.assertEqual(judge_chain(self.program, [listed(one) for one in steps]), told)
        if told is None:
            self.assertEqual(led_by(self.program, steps).kind, self.program.kind)
        else:
            self.assertEqual(refusal(led_by, self.program, steps), ("BadChain", *told))
            self.assertEqual(refusal(turned_chain, self.program, steps), ("BadChain", *told))
        return told

    def test_good_chains(self):
        self.assertIsNone(self.word())
        unfold = step((0, 0), "unfold", "on", "(fn x (join (one x) (one x)))")
        use = step((0,), "use", "on", "(join (one n) (one n))")
        self.assertIsNone(self.word(unfold))
        self.assertIsNone(self.word(unfold, use))
        self.assertIsNone(self.word(unfold, use, step((), "joinjoin", "on",
                                    "(join (one n) (join (one n) (where (truth yes) (one 1))))")))
        self.assertEqual(led_by(self.program, [unfold, use]), asked("(join (join (one n) (one n)) "
                                                                   "(where (truth yes) (one 1)))"))
        self.assertEqual(led_by(self.program, ()), self.program)

    def test_back(self):
        self.assertIsNone(self.word(step((1, 1, 0), "if", "back", "(if (truth yes) 1 (plus 1 2))")))
        self.assertIsNone(self.word(step((1, 1, 0), "use", "back", "(use (fn x x) 1)")))
        self.assertIsNone(self.word(step((0, 1), "field", "back", "(field (record a n b (none)) a)")))
        self.assertEqual(self.word(step((1, 1, 0), "if", "back", "(if (truth no) 1 (plus 1 2))")), (0, "result"))

    def test_bound_names_may_differ(self):
        self.assertIsNone(self.word(step((0, 0), "unfold", "on", "(fn y (join (one y) (one y)))")))
        self.assertEqual(self.word(step((0, 0), "unfold", "on", "(fn y (join (one y) (one n)))")), (0, "result"))
        program = asked("(for x (table dept) (one (field x name)))")
        other = term_of("(for y (table dept) (one (field y name)))")
        for way in ("on", "back"):
            self.assertIsNone(judge_chain(program, [((), "rename", way, other)]))
        self.assertEqual(led_by(program, [((), "rename", "on", other)]).asking, other)
        self.assertEqual(judge_chain(program, [((), "rename", "on", term_of("(table dept)"))]), (0, "result"))

    def test_path(self):
        for path in ((2,), (0, 0, 0), (-1,), (True,), (1, 1, 1)):
            self.assertEqual(self.word((path, "no", "no", None)), (0, "path"))

    def test_rule(self):
        for rule in ("", "uses", None, "on", 5):
            self.assertEqual(self.word(((0,), rule, "no", None)), (0, "rule"))

    def test_way(self):
        for way in ("", "off", None, True):
            self.assertEqual(self.word(((0,), "use", way, None)), (0, "way"))
            self.assertEqual(self.word(((0,), "rename", way, None)), (0, "way"))

    def test_after(self):
        for after in (None, ("name", "X"), ("one",), ("number", True), nested(20, lambda term: ("one", term), ("none",))):
            self.assertEqual(self.word(((0,), "use", "on", after)), (0, "after"))

    def test_result(self):
        self.assertEqual(self.word(((0,), "use", "on", ("none",))), (0, "result"))
        self.assertEqual(self.word(((1,), "where", "on", term_of("(if (truth yes) (one 2) (none))"))), (0, "result"))
        self.assertEqual(self.word(((1,), "where", "back", term_of("(if (truth yes) (one 1) (none))"))), (0, "result"))
        self.assertEqual(self.word(((0, 0), "rename", "on", ("name", "n"))), (0, "result"))

    def test_size(self):
        deep = nested(16, lambda term: ("plus", ("number", 0), term), ("number", 1))
        after = ("field", ("record", (("a", ("number", 1)), ("b", deep))), "a")
        self.assertIsNone(self.word(((1, 1, 0), "field", "back", ("field", ("record", (("a", ("number", 1)),)), "a"))))
        self.assertEqual(self.word(((1, 1, 0), "field", "back", after)), (0, "size"))
        row = nested(6, lambda term: ("join", term, term), ("none",))
        wide = ("field", ("record", (("a", ("number", 1)), ("b", row))), "a")
        self.assertIsNone(self.word(((1, 1, 0), "field", "back", wide)))
        self.assertEqual(self.word(((1, 1, 0), "field", "back", wide), ((0, 1), "rename", "on", ("name", "n")),
                                   ((0,), "field", "back", put_at(wide, (0, 0), at_path(self.program.asking, (0,))))),
                         (2, "size"))

    def test_kind(self):
        # binds a definition's name
        self.assertEqual(self.word(step((1, 1, 0), "use", "back", "(use (fn n n) 1)")), (0, "kind"))
        self.assertEqual(self.word(step((1, 1, 0), "use", "back", "(use (fn x 1) (fn dup dup))")), (0, "kind"))
        # has an unknown name, or an unknown table
        self.assertEqual(self.word(step((1, 1, 0), "if", "back", "(if (truth yes) 1 z)")), (0, "kind"))
        self.assertEqual(self.word(step((1, 1, 0), "let", "back", "(let x (table none) 1)")), (0, "kind"))
        # has a misfit
        self.assertEqual(self.word(step((1, 1, 0), "if", "back", '(if (truth yes) 1 "a")')), (0, "kind"))
        # has another kind than the program
        program = asked("(join (as (none) (list text)) (none))")
        self.assertEqual(judge_chain(program, [step((0,), "as", "on", "(none)")]), (0, "kind"))
        self.assertEqual(refusal(led_by, program, [step((0,), "as", "on", "(none)")]), ("BadChain", 0, "kind"))
        # unclear is no misfit
        program = asked("(one 1)")
        self.assertIsNone(judge_chain(program, [step((0,), "let", "back", "(let f (fn x (equal x x)) 1)")]))

    def test_the_first_bad_step(self):
        good = step((1,), "where", "on", "(if (truth yes) (one 1) (none))")
        self.assertEqual(self.word(good, good), (1, "result"))
        self.assertEqual(self.word(good, ((9,), "use", "on", None), ((9,), "use", "on", None)), (1, "path"))
        self.assertEqual(self.word(((9,), "use", "on", None), good), (0, "path"))
        # each step is for the asking that those before it leave
        self.assertIsNone(self.word(good, step((1,), "if", "on", "(one 1)")))
        self.assertIsNone(self.word(good, step((1,), "where", "back", "(where (truth yes) (one 1))")))

    def test_nothing_passed_is_changed_or_kept(self):
        steps = [[[1], "where", "on", ["if", ["truth", True], ["one", ["number", 1]], ["none"]]]]
        kept = listed(steps)
        program = led_by(self.program, steps)
        turned = turned_chain(self.program, steps)
        judge_chain(self.program, steps)
        self.assertEqual(steps, kept)
        steps[0][3].clear()
        self.assertEqual(program.asking[2], term_of("(if (truth yes) (one 1) (none))"))
        self.assertEqual(turned, (((1,), "where", "back", term_of("(where (truth yes) (one 1))")),))
        self.assertEqual(self.program, asked("(join (use dup n) (where (truth yes) (one 1)))"))


class TurnedTest(unittest.TestCase):
    def test_there_and_back(self):
        program = asked("(use dup (plus 1 2))")
        chain = [step((0,), "unfold", "on", "(fn y (join (one y) (one y)))"),
                 step((), "use", "on", "(join (one (plus 1 2)) (one (plus 1 2)))"),
                 step((0, 0), "if", "back", "(if (truth yes) (plus 1 2) 7)")]
        turned = turned_chain(program, chain)
        self.assertEqual(turned, (
            step((0, 0), "if", "on", "(plus 1 2)"),
            step((), "use", "back", "(use (fn y (join (one y) (one y))) (plus 1 2))"),
            step((0,), "unfold", "back", "dup"),
        ))
        self.assertEqual(led_by(led_by(program, chain), turned), program)
        self.assertEqual(turned_chain(program, ()), ())

    def test_a_renaming_is_turned_too(self):
        program = asked("(for x (table dept) (one x))")
        chain = [step((), "rename", "on", "(for y (table dept) (one y))")]
        self.assertEqual(turned_chain(program, chain), (step((), "rename", "back", "(for x (table dept) (one x))"),))


class OnStepsTest(unittest.TestCase):
    def test_paths_in_preorder_and_rules_in_order(self):
        program = asked("(join (none) (for x (one 1) (join (where (truth yes) (one x)) (none))))")
        told = [(path, rule, way) for path, rule, way, _ in on_steps(program)]
        self.assertEqual(told, [((), "joinnone", "on"), ((1,), "forone", "on"), ((1, 1), "joinnone", "on"),
                                ((1, 1, 0), "where", "on")])
        program = asked("(for x (for y (none) (one y)) (one x))")
        self.assertEqual([(path, rule) for path, rule, _, _ in on_steps(program)],
                         [((), "forfor"), ((), "itself"), ((0,), "fornone"), ((0,), "itself")])

    def test_they_are_all(self):
        chance = random.Random(45)
        for _ in range(40):
            program = Program(HEADS, DEFINITIONS, any_asking(chance))
            steps = list(on_steps(program))
            for path, rule, way, after in steps:
                self.assertEqual(way, "on")
                self.assertEqual(after, apply_rule(rule, at_path(program.asking, path), program.definitions))
            found = [(path, rule) for path in all_paths(program.asking) for rule in RULES
                     if apply_rule(rule, at_path(program.asking, path), program.definitions) is not None]
            self.assertEqual([(path, rule) for path, rule, _, _ in steps], found)

    def test_what_they_may_be_bad_by(self):
        program = asked("(join (as (none) (list text)) (none))")
        self.assertEqual([judge_chain(program, [one]) for one in on_steps(program)], [None, (0, "kind")])

    def test_chains_by_chance(self):
        """Good chains keep the kind and the meaning, and lead back."""
        chance = random.Random(46)
        for _ in range(60):
            program = Program(HEADS, DEFINITIONS, any_asking(chance))
            store = any_store(chance)
            chain, now = [], program
            for _ in range(4):
                steps = [one for one in on_steps(now) if judge_chain(now, [one]) is None]
                if not steps:
                    break
                chain.append(chance.choice(steps))
                now = led_by(now, chain[-1:])
                self.assertEqual(meaning(now, store), meaning(program, store), chain[-1])
            self.assertIsNone(judge_chain(program, chain))
            self.assertEqual(led_by(program, chain), now)
            turned = turned_chain(program, chain)
            self.assertEqual(led_by(now, turned), program)
            self.assertEqual([one[0] for one in turned], [one[0] for one in chain[::-1]])
            again = turned_chain(now, turned)
            self.assertEqual([one[:3] for one in again], [one[:3] for one in chain])
            self.assertTrue(all(same_term(one[3], other[3]) for one, other in zip(again, chain)))


class EachRuleTest(unittest.TestCase):
    ASKINGS = (
        ("useif", "(use (if (less 1 2) (fn x (one x)) (fn y (one 7))) 5)"),
        ("useif", "(use (if (less 2 1) (fn x (one x)) (fn y (one 7))) 5)"),
        ("apart", "(join (where (less 1 2) (one 1)) (where (not (less 1 2)) (one 2)))"),
        ("apart", "(join (where (less 2 1) (one 1)) (where (not (less 2 1)) (one 2)))"),
        ("through", "(use (fn x (use (fn y (one y)) x)) 1)"),
        ("iffn", "(let x 1 (use (if (less x 2) (fn x (one x)) (fn y (one x))) 5))"),
        ("iffn", "(let x 1 (use (if (less 2 x) (fn x (one x)) (fn y (one (plus x y)))) 5))"),
        ("forfor", "(let y 9 (for x (for y (table dept) (join (one y) (one y))) (one (record a y b x))))"),
        ("wherefor", "(for x (join (one 1) (one 5)) (where (less x 3) (for x (table dept) (one x))))"),
        ("twice", "(where (and (less 1 2) (less 1 2)) (one 1))"),
        ("bare", "(one (count (for x (table dept) (if (equal 1 1) (table dept) (one x)))))"),
        ("fieldif", '(one (field (if (less 1 2) (record a 1 b "x") (record a 2 b "y")) a))'),
    )

    def test_a_step_keeps_the_meaning(self):
        store = Store(DEPT)
        for name in "abc":
            store.put("dept", (name,))
        for rule, text in self.ASKINGS:
            program = asked(text)
            steps = [one for one in on_steps(program) if one[1] == rule]
            self.assertTrue(steps, text)
            for one in steps:
                self.assertIsNone(judge_chain(program, [one]))
                self.assertEqual(meaning(led_by(program, [one]), store), meaning(program, store), text)


def all_paths(term, path=()):
    return [path] + [inner for at, part in enumerate(children(term)) for inner in all_paths(part, path + (at,))]


class SettlingTest(unittest.TestCase):
    def test_the_steps(self):
        program = asked("(for y (use dup n) (one y))")
        kind = ("list", "int")
        self.assertEqual(settling_steps(program), (
            ((), "as", "back", ("as", program.asking, kind)),
            step((0,), "itself", "on", "(use dup n)"),
            step((0, 0), "unfold", "on", "(fn x (join (one x) (one x)))"),
            step((0,), "use", "on", "(join (one n) (one n))"),
            step((0, 0, 0), "unfold", "on", "3"),
            step((0, 1, 0), "unfold", "on", "3"),
        ))
        self.assertEqual(settled_program(program), asked("(as (join (one 3) (one 3)) (list int))"))
        self.assertEqual([one[:2] for one in settling_steps(asked("(one 1)"))], [((), "as")])

    def test_the_outermost_as_stays(self):
        self.assertEqual(settled_program(asked("(as (none) (list text))")).asking, term_of("(as (none) (list text))"))
        self.assertEqual([one[:3] for one in settling_steps(asked("(as (none) (list text))"))],
                         [((), "as", "back"), ((0,), "as", "on")])

    def test_no_step_leads_into_a_fn(self):
        program = asked("(let f (fn x (as x int)) (one (use f (as 1 int))))")
        self.assertEqual([one[:2] for one in settling_steps(program)],
                         [((), "as"), ((0,), "let"), ((0, 0), "use"), ((0, 0), "as"), ((0, 0), "as")])

    def test_a_fn_that_is_met_ahead_of_the_first_step(self):
        """A list of functions is bared only when what stands beside it is settled."""
        for inner in ("(fn y (one (as y int)))", "(fn y (use dup y))"):
            program = asked(f"(one (count (join (one {inner}) (as (none) (list (function int (list int)))))))")
            self.assertEqual([one[:2] for one in settling_steps(program)],
                             [((), "as"), ((0, 0, 0, 1), "as"), ((0, 0), "bare"), ((0, 0, 0), "joinnone")], inner)

    def test_rules_behind_bare_make_no_steps(self):
        for text in ("(for x (table dept) (one x))", "(join (one 1) (one 2))"):
            program = asked(text)
            rules = [one[1] for one in settling_steps(program)]
            self.assertLessEqual(set(rules), set(RULES[:20]))
        program = asked('(for x (table dept) (if (and (equal (field x name) "a") (equal (field x name) "a")) '
                        "(one (record a 1)) (one (record a 2))))")
        self.assertEqual([one[1] for one in settling_steps(program)], ["as"])

    def test_size(self):
        self.assertEqual(refusal(settling_steps, asked(term_text_of_depth(19))), ("BadChain", 0, "size"))
        self.assertEqual(len(settling_steps(asked(term_text_of_depth(18)))), 1)
        row = "(plus x x)"
        for _ in range(5):
            row = f"(let x {row} (plus x x))"
        program = asked(f"(one (let x (plus (plus 1 1) (plus 1 1)) {row}))")
        steps = settling_steps(program) if refusal(settling_steps, program) is None else None
        self.assertIsNone(steps)
        name, at, word = refusal(settling_steps, program)
        self.assertEqual((name, word), ("BadChain", "size"))
        self.assertGreater(at, 1)
        self.assertEqual(refusal(settled_program, program), (name, at, word))

    def test_a_kind_that_the_check_of_terms_refuses(self):
        deep = asked("(one " * 12 + "1" + ")" * 12)
        self.assertEqual(len(settling_steps(asked("(one " * 11 + "1" + ")" * 11))), 1)
        self.assertEqual(refusal(settling_steps, deep), ("BadChain", 0, "size"))
        wide = "(one x)"
        for label in "abcdef":
            wide = f"(where (equal 1 (field x {label})) {wide})"
        self.assertEqual(refusal(settling_steps, asked(f"(for x (none) {wide})")), ("BadChain", 0, "size"))

    def test_settled_programs_are_flat(self):
        chance = random.Random(47)
        settled = 0
        for _ in range(250):
            program = Program(HEADS, DEFINITIONS, any_asking(chance, chance.choice((4, 5, 6))))
            fault = refusal(settling_steps, program)
            if fault is not None:
                self.assertEqual((fault[0], fault[2]), ("BadChain", "size"))
                continue
            settled += 1
            steps = settling_steps(program)
            self.assertIsNone(judge_chain(program, steps))
            other = settled_program(program)
            self.assertEqual(other, led_by(program, steps))
            self.check_flat(program, other.asking)
            store = any_store(chance)
            self.assertEqual(meaning(other, store), meaning(program, store))
            self.check_steps(program, steps)
        self.assertGreater(settled, 200)

    def check_flat(self, program, asking):
        self.assertEqual((asking[0], asking[2]), ("as", program.kind))
        names = [name for name, _ in program.definitions]
        for path in all_paths(asking)[1:]:
            node = at_path(asking, path)
            self.assertNotIn(node[0], ("fn", "use", "let", "where", "as"))
            if node[0] == "name":
                self.assertNotIn(node[1], names)
            if node[0] == "for":
                self.assertEqual(node[2][0], "table")
            if node[0] == "field":
                self.assertEqual(node[1][0], "name")
                self.assertIn(node[1][1], names_over(asking, path))

    def check_steps(self, program, steps):
        """Each step is the first rule at the first path that begins with 0 and leads into no fn."""
        asking = check_term(steps[0][3])
        for path, rule, way, after in steps[1:]:
            self.assertEqual((path[:1], way), ((0,), "on"))
            first = None
            for other in all_paths(asking)[1:]:
                over = [at_path(asking, other[:length])[0] for length in range(len(other))]
                led = [name for name in RULES[:20]
                       if apply_rule(name, at_path(asking, other), program.definitions) is not None]
                if "fn" not in over and led:
                    first = (other, led[0])
                    break
            self.assertEqual((path, rule), first)
            self.assertEqual(after, apply_rule(rule, at_path(asking, path), program.definitions))
            asking = put_at(asking, path, after)

    def test_example(self):
        program = Program((("t", (("a", "int"),)),), (),
                          term_of("(for y (for x (table t) (one (field x a))) (one y))"))
        chain = [step((), "forfor", "on", "(for x (table t) (for y (one (field x a)) (one y)))"),
                 step((1,), "forone", "on", "(one (field x a))")]
        self.assertEqual(led_by(program, chain).asking, term_of("(for x (table t) (one (field x a)))"))
        self.assertEqual(meaning(led_by(program, chain), Store(program.heads)), [])


def term_text_of_depth(steps):
    """A list of an int whose deepest nodes lie at paths of so many numbers."""
    return "(one " + "(plus 1 " * (steps - 1) + "1" + ")" * steps


if __name__ == "__main__":
    unittest.main()
