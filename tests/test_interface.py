"""The section "The interface": names and parameters, each defined in the file under which it is listed."""

import ast
import importlib
import inspect
import os
import unittest

FOLDER = os.path.join(os.path.dirname(os.path.dirname(os.path.abspath(__file__))), "listasks")
FUNCTIONS = {
    "kinds": """is_name(thing) check_kind(kind) is_base(kind) has_open(kind) has_function(kind) is_answer_kind(kind)
        list_places(kind) ask_count(kind) kind_at(kind, steps) flat_paths(kind) fits_base(value, kind)""",
    "terms": """children(term) with_children(term, parts) bound_name(term, at) at_path(term, path) put_at(term, path, part)
        names_over(term, path) nodes_of(term) depth_of(term) check_term(term) free_names(term) fresh_name(taken)
        substituted(term, name, part) renamed(term, old, new) same_term(one, other)""",
    "stores": "check_heads(heads) columns_of(heads, table) row_kind(heads, table)",
    "words": "print_form(form) read_form(text)",
    "texts": """kind_form(kind) term_form(term) heads_form(heads) store_form(store) program_form(program) kind_of_form(form)
        term_of_form(form) heads_of_form(form) store_of_form(form) kind_text(kind) term_text(term) store_text(store)
        program_text(program) kind_of(text) term_of(text) store_of(text) program_parts(text)""",
    "kindsfound": """kinds_within(heads, known, term) closed_kinds(heads, known, term) found_kind(heads, known, term)
        put_in(kind, choices) numbered_anew(kind) is_case_of(kind, general)""",
    "programs": "with_asking(program, term) without_definitions(program)",
    "rules": "apply_rule(rule, term, definitions)",
    "chains": """judge_chain(program, steps) led_by(program, steps) turned_chain(program, steps) on_steps(program)
        settling_steps(program) settled_program(program)""",
    "values": """value_text(value) value_size(value) bag_text(value) bag_of(value) same_bag(one, other) counts_of(rows)
        pairing(one, other) pairing_fits(one, other, paper) parted_at(one, other)""",
    "meaning": "meaning(program, store) trail(program, store) askings(program, store)",
    "cells": """not_of(a) and_of(a, b) or_of(a, b) if_of(c, a, b) cell_form(cell) tree_form(tree) thing_form(thing)
        cell_text(cell) tree_text(tree) thing_text(thing) tests_of(cell) merged_tests(one, other)""",
    "forms": "cell_of_form(form) tree_of_form(form) thing_of_form(form)",
    "lifting": """lifted_cell(cell, depth, by) lifted_thing(thing, depth, by) lifted_tree(tree, depth, by)
        rows_spoken(cell, depth) tables_within(cell)""",
    "worths": """worth(cell, choice, store) held(tree, choice, store) cell_kind(cell, heads, tables)
        thing_fits(thing, kind, heads, tables)""",
    "trees": """for_of(table, tree) parts_of(trees) leaf_of(tests, thing) when(test, tree, depth) graft(tree, depth, function)
        without_things(tree) leaves_of(tree, depth=0) tree_fault(tree) rebuilt(tree)""",
    "keys": """goes_before(one, other) key_begins(one, other) key_from(items, choice) value_of(thing, choice, store)
        told_rows(tree, choice, store) told_values(tree, choice, store) value_for_key(tree, key, choice, store)""",
    "reading": """read(program) read_term(heads, term, names, depth) if_thing(test, one, other, depth)
        use_function(function, thing, depth) moved_thing(thing, depth, by)""",
    "shredding": "tree_fits(tree, kind) shred(tree, kind)",
    "families": "settled_tree(tree) family_fault(kind, questions) gathered(kind, questions)",
    "questions": "question_text(question) question_of(text) question_fault(question, heads)",
    "flatrun": """row_of_member(member, choice, store) rows_in_order(rows) run_member(member, store) run_plain(question, store)
        run_under(question, outer, store) tables_named(question)""",
    "compiling": "questions_of(program) answers_of(questions, store) ask_by_rows(questions, store)",
    "judge": "matches_of(member, r, taken) judge_plan(member, plan)",
    "plans": """plain_plan(member) all_plans(member) plan_for(member, sizes) changed_plan(member, plan, change)
        way_to_plain(member, plan) way_between(member, one, other)""",
    "planrun": """sizes_of(store) most_touched(member, plan, sizes) states_of(member, plan, store) run_plan(member, plan, store)
        plans_for(question, sizes) run_question(question, plans, store)""",
    "stitching": """around_of(kind) with_keys(answers) ids_fault(kind, answers) stitch(kind, answers)
        thing_at(kind, answers, place, own) laid_out(kind, value) paired_rows(kind, one, other) parted_rows(kind, one, other)""",
    "streams": "merged_rows(answers) stream(kind, answers)",
    "numbering": """numbering_fault(kind, answers, numbering) even_numbers(kind, answers, *, first=1, step=1)
        numbered_answers(kind, answers, numbering)""",
    "named": """fits_key(items, key) member_of(question, row) choice_of(member, row) rows_named(question, row)
        deep_tables(member) is_plain(member) surviving(question, rows, gone) lineage(questions, answers, place, key)""",
    "kept": "put_rows(member, table, number, store)",
    "pieces": """pieces_of(program) piece_of(member, heads) constants_of(pieces) standard_asking(program)
        least_spelling(piece) renaming_fault(one, other, places) renamings_of(one, other) renaming_of(one, other)
        pair_off(one, other)""",
    "folds": """maps_into(piece, store) shown_by(piece, store, numbers) count_maps(piece, store, shown) tally_of(pieces, store)
        foldings_of(piece, constants) folding_fault(piece, constants, folding) folded(piece, constants, folding)
        images_of(pieces, constants) count_laid(piece, constants, store, shown)""",
    "sameness": """balance_of(one, other) fresh_values(piece, constants) parting_store(piece, constants, heads)
        pairs_of(one, other) are_alike(one, other) parting_of(one, other)""",
    "desk": "check_deed(deed)",
    "stories": "story_text(heads, deeds) story_of(text) replayed(heads, deeds) shortened(desk)",
}
# The methods that each class defines itself, its parameters being those of __init__; "!" marks properties.
CLASSES = {
    "stores": {"Store": """__init__(heads) put(table, cells) take(table, number) rows_of(table) following(table)
        cell_at(table, number, column) copied() __len__() __eq__(other)"""},
    "programs": {"Program": "__init__(heads, definitions, asking) __eq__(other)"},
    "members": {"Member": "__init__(tables, tests, outer, own, cells) whole!() __eq__(other)",
                "FlatQuestion": "__init__(place, members) __eq__(other) __iter__()"},
    "planrun": {"PlanRun": "__init__(rows, counts, touched) __eq__(other)"},
    "streams": {"Stitcher": "__init__(kind) push(place, row) finish() open_rows!() is_done!()"},
    "kept": {"Change": "__init__(place, gone, come, anew) __eq__(other)",
             "Kept": "__init__(program, store) put(table, cells) take(table, number) rows_at(place) told_now() store_now() last!()"},
    "pieces": {"Piece": "__init__(rows, kinds, shown) __eq__(other)"},
    "sameness": {"Parting": "__init__(store, shown, one_count, other_count) __eq__(other)"},
    "desk": {"Desk": """__init__(heads) perform(deed) perform_all(deeds, *, keep=True) store_copy() kept_program(name) copied()
        __eq__(other)"""},
}
VALUES = {
    "cells": {"TRUE": ("truth", True), "FALSE": ("truth", False)},
    "trees": {"NONE": ("none",)},
    "pieces": {"MOST_ROWS": 4},
}
GENERATORS = (("chains", "on_steps"), ("worths", "held"), ("plans", "all_plans"), ("planrun", "states_of"),
              ("streams", "merged_rows"), ("streams", "stream"), ("pieces", "renamings_of"), ("folds", "maps_into"),
              ("folds", "foldings_of"))


def listed(text):
    """The (name, parameters) that a list of calls names."""
    calls = text.replace(", ", ",").split()
    return [(call[:call.index("(")], call[call.index("(") + 1:-1].split(",") if "()" not in call else []) for call in calls]


def parameters(function):
    return str(inspect.signature(function))[1:-1].replace(" ", "").split(",") if inspect.signature(function).parameters else []


def defined_in(module):
    """The functions and classes that a file defines itself, as nodes by name."""
    with open(os.path.join(FOLDER, f"{module}.py"), encoding="utf-8") as file:
        tree = ast.parse(file.read())
    return {node.name: node for node in tree.body if isinstance(node, (ast.FunctionDef, ast.ClassDef))}


class InterfaceTest(unittest.TestCase):
    def test_functions(self):
        for module, text in FUNCTIONS.items():
            nodes, held = defined_in(module), importlib.import_module(f"listasks.{module}")
            for name, names in listed(text):
                with self.subTest(module=module, name=name):
                    self.assertIsInstance(nodes[name], ast.FunctionDef)
                    self.assertEqual(parameters(getattr(held, name)), names)

    def test_classes(self):
        for module, classes in CLASSES.items():
            nodes, held = defined_in(module), importlib.import_module(f"listasks.{module}")
            for name, text in classes.items():
                self.assertIsInstance(nodes[name], ast.ClassDef)
                own = vars(getattr(held, name))
                for method, names in listed(text):
                    with self.subTest(name=name, method=method):
                        if method.endswith("!"):
                            self.assertIsInstance(own[method[:-1]], property)
                        else:
                            self.assertEqual(parameters(own[method]), ["self"] + names)

    def test_attributes_are_named_like_parameters(self):
        heads, asking = (("t", (("c", "int"),)),), ("table", "t")
        made = {"Store": (heads,), "Desk": (heads,), "Stitcher": (("list", "int"),), "Program": (heads, (), asking)}
        program = importlib.import_module("listasks.programs").Program(heads, (), asking)
        made["Kept"] = (program, importlib.import_module("listasks.stores").Store(heads))
        for module, classes in CLASSES.items():
            for name, text in classes.items():
                own = getattr(importlib.import_module(f"listasks.{module}"), name)
                names = listed(text)[0][1]
                given = made.get(name, tuple(range(len(names))))
                held = own(*given)
                for attribute, value in zip(names, given):
                    with self.subTest(name=name, attribute=attribute):
                        self.assertEqual(vars(held)[attribute], value)
        desk = vars(importlib.import_module("listasks.desk").Desk(heads))
        self.assertTrue({"heads", "definitions", "kept_names", "story", "sent"} <= set(desk))
        kept = vars(importlib.import_module("listasks.kept").Kept(*made["Kept"]))
        self.assertTrue({"program", "questions"} <= set(kept))

    def test_static_method(self):
        store = importlib.import_module("listasks.stores").Store
        self.assertIsInstance(vars(store)["from_rows"], staticmethod)
        self.assertEqual(parameters(store.from_rows), ["heads", "lots"])

    def test_values(self):
        for module, values in VALUES.items():
            for name, value in values.items():
                self.assertEqual(getattr(importlib.import_module(f"listasks.{module}"), name), value)
        self.assertEqual(len(importlib.import_module("listasks.rules").RULES), 30)

    def test_generators(self):
        for module, name in GENERATORS:
            self.assertTrue(inspect.isgeneratorfunction(getattr(importlib.import_module(f"listasks.{module}"), name)))


if __name__ == "__main__":
    unittest.main()
