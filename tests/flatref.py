"""Flat questions told by another way: by functions that call themselves, list by list."""

import itertools

from tests.treesref import all_leaves, canonical, lifted, row_of_tests, spelled, value_at


def lists_in(kind, labels=()):
    """The (labels, kind) of the lists within the kind of a list's things, those within them left out."""
    if isinstance(kind, str):
        return []
    if kind[0] == "list":
        return [(labels, kind)]
    return [found for label, part in kind[1] for found in lists_in(part, labels + (label,))]


def bases_in(kind, labels=()):
    if isinstance(kind, str):
        return [labels]
    if kind[0] == "list":
        return []
    return [found for label, part in kind[1] for found in bases_in(part, labels + (label,))]


def beneath(thing, labels):
    for label in labels:
        thing = dict(thing[1])[label]
    return thing


def up(tests, depth, onto):
    return [canonical(lifted(test, depth, onto - depth)) for test in tests]


def cut(tree, kind):
    """The questions of a tree as (place, members), a member as (tables, tests, outer, own, cells)."""
    return list(cut_lists(kind, (), [((), (), (), tree)]))


def cut_lists(kind, place, lists):
    """The questions of the lists at a place, each as (tables, tests, whole, tree), and of those within them."""
    members, things = [], []
    for tables, tests, whole, tree in lists:
        for items, more, own, thing in all_leaves(tree, len(tables)):
            row = tuple(row_of_tests(up(tests, len(tables), len(tables + more)) + list(own)))
            cells = tuple(beneath(thing, labels) for labels in bases_in(kind[1]))
            members.append((tables + more, row, whole, items, cells))
            things.append(thing)
    yield (place, members)
    for labels, inner in lists_in(kind[1]):
        inside = [(tables, tests, outer + own, beneath(thing, labels)[1])
                  for (tables, tests, outer, own, _), thing in zip(members, things)]
        yield from cut_lists(inner, place + ("*",) + labels, inside)


def settled(tree, tests=(), stood=0, depth=0):
    """The tree, at the depth, less the tests around it, which stand at their own depth."""
    if tree[0] == "for":
        return ("for", tree[1], settled(tree[2], tests, stood, depth + 1))
    if tree[0] == "parts":
        return ("parts", tuple(settled(part, tests, stood, depth) for part in tree[1]))
    if tree[0] == "none":
        return tree
    around = up(tests, stood, depth)
    texts = [spelled(test) for test in around]
    left = tuple(test for test in tree[1] if spelled(test) not in texts)
    return ("leaf", left, settled_thing(tree[2], tuple(around) + tree[1], depth))


def settled_thing(thing, tests, depth):
    if thing[0] == "record":
        return ("record", tuple((label, settled_thing(part, tests, depth)) for label, part in thing[1]))
    return ("list", settled(thing[1], tests, depth, depth)) if thing[0] == "list" else thing


def whole_tree(kind, questions):
    """The tree that the questions, as from cut, tell if they tell any; it may raise any error otherwise."""
    found = dict(questions)

    def tree_at(inner, place, whole, tables, tests):
        mine = []
        for more, row, outer, own, cells in found[place]:
            if outer == whole:
                around = up(tests, len(tables), len(more))
                left = tuple(test for test in row if test not in around)
                rest = list(cells)
                thing = thing_at(inner[1], place + ("*",), rest, (whole + own, more, row))
                mine.append((own, more[len(tables):], ("leaf", left, thing)))
        return joined(mine) if mine else ("none",)

    def thing_at(inner, place, rest, member):
        if isinstance(inner, str):
            return rest.pop(0)
        if inner[0] == "list":
            return ("list", tree_at(inner, place, *member))
        return ("record", tuple((label, thing_at(part, place + (label,), rest, member)) for label, part in inner[1]))

    return tree_at(kind, (), (), (), ())


def joined(ways):
    if len(ways) == 1 and ways[0][0] == ():
        return ways[0][2]
    word, _ = ways[0][0][0]
    if word == "row":
        return ("for", ways[0][1][0], joined([(items[1:], tables[1:], leaf) for items, tables, leaf in ways]))
    lots = {}
    for items, tables, leaf in ways:
        lots.setdefault(items[0][1], []).append((items[1:], tables, leaf))
    return ("parts", tuple(joined(lots[number]) for number in sorted(lots)))


def rows_of_member(member, store):
    """The rows of a member in the order of their choices."""
    numbers = [[number for number, _ in store.rows_of(table)] for table in member.tables]
    rows = []
    for picked in itertools.product(*numbers):
        choice = tuple(zip(member.tables, picked))
        if all(value_at(test, choice, store) for test in member.tests):
            outer, own = (tuple(picked[at] if word == "row" else at for word, at in items)
                          for items in (member.outer, member.own))
            rows.append((outer, own, tuple(value_at(cell, choice, store) for cell in member.cells)))
    return rows


def rows_of_question(question, store):
    rows = [row for member in question.members for row in rows_of_member(member, store)]
    return tuple(sorted(rows, key=lambda row: row[:2]))
