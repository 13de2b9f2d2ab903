"""Plans told by another way, and members and plans made by chance."""

import itertools

from listasks.members import Member
from tests.making_trees import COLUMNS, TABLES, any_cell, least_cell
from tests.treesref import canonical, value_at

SORTS = ("take", "match", "keep")


def cells_in(node):
    """The node and all that stands within it, as nested tuples of any form."""
    if isinstance(node, tuple):
        yield node
        for part in node:
            yield from cells_in(part)


def rows_in(cell, depth):
    return {node[1] for node in cells_in(cell) if node[:1] == ("column",) and node[1] < depth}


def asks_more(cell):
    """Whether a cell has a sub-question; no column or text of the tests here is called like one."""
    return any(node[:1] in (("empty",), ("count",), ("total",)) for node in cells_in(cell))


def fellows(test, row):
    """The (column, fellow) of the sides of a test for a row."""
    if test[0] != "equal":
        return []
    pairs = [(test[1], test[2]), (test[2], test[1])]
    return [(one[2], other) for one, other in pairs if one[0] == "column" and one[1] == row and not asks_more(other)]


def is_good(member, plan):
    """Whether a plan made of well formed steps is good."""
    depth = len(member.tables)
    taken, used = set(), set()
    for step in plan:
        if step[0] == "keep":
            if step[1] in used or not rows_in(member.tests[step[1]], depth) <= taken:
                return False
            used.add(step[1])
            continue
        if step[1] in taken:
            return False
        if step[0] == "match":
            sides = fellows(member.tests[step[2]], step[1])
            if step[2] in used or not any(rows_in(fellow, depth) <= taken for _, fellow in sides):
                return False
            used.add(step[2])
        taken.add(step[1])
    return taken == set(range(depth)) and used == set(range(len(member.tests)))


def good_plans(member):
    """All good plans in the order of [11.6], found among all sequences of steps."""
    rows, tests = range(len(member.tables)), range(len(member.tests))
    found = []
    for ways in itertools.product(*[(None, *rows) for _ in tests]):
        matched = [row for row in ways if row is not None]
        if len(set(matched)) < len(matched):
            continue
        steps = [("keep", test) if row is None else ("match", row, test) for test, row in zip(tests, ways)]
        steps += [("take", row) for row in rows if row not in matched]
        found += [plan for plan in itertools.permutations(steps) if is_good(member, plan)]
    return sorted(found, key=lambda plan: [(SORTS.index(step[0]), *step[1:]) for step in plan])


def any_member(chance, tables=4, tests=3):
    """A member with any truth cells as tests; many of them say that a column is equal to something."""
    own = tuple(chance.choice(TABLES) for _ in range(chance.randrange(tables + 1)))
    asked = [any_test(chance, own) for _ in range(chance.randrange(tests + 1))]
    if len(asked) > 1 and chance.random() < 0.1:
        asked[-1] = asked[0]
    items = [("row", row) for row in range(len(own))]
    chance.shuffle(items)
    items.insert(chance.randrange(len(items) + 1), ("part", 2))
    cut = chance.randrange(len(items) + 1)
    cells = tuple(canonical(any_cell(chance, kind, own, 2)) for kind in ("int", "text"))
    return Member(own, tuple(asked), tuple(items[:cut]), tuple(items[cut:]), cells)


def any_test(chance, tables):
    columns = [(("column", row, column), kind) for row, table in enumerate(tables) for column, kind in COLUMNS[table]]
    if not columns or chance.random() < 0.3:
        return canonical(any_cell(chance, "truth", tables, 3))
    column, kind = chance.choice(columns)
    make = least_cell if chance.random() < 0.7 else any_cell
    fellow = make(chance, kind, tables) if make is least_cell else canonical(any_cell(chance, kind, tables, 3))
    sides = [column, fellow]
    chance.shuffle(sides)
    return ("equal", *sides)


def drawn_plan(chance, member):
    """A good plan, drawn step by step."""
    depth = len(member.tables)
    taken, used, steps = set(), set(), []
    while len(taken) < depth or len(used) < len(member.tests):
        rows = [row for row in range(depth) if row not in taken]
        tests = [test for test in range(len(member.tests)) if test not in used]
        ready = [("take", row) for row in rows]
        ready += [("match", row, test) for row in rows for test in tests
                  if any(rows_in(fellow, depth) <= taken for _, fellow in fellows(member.tests[test], row))] * 2
        ready += [("keep", test) for test in tests if rows_in(member.tests[test], depth) <= taken]
        step = chance.choice(ready)
        steps.append(step)
        if step[0] != "keep":
            taken.add(step[1])
        if step[0] != "take":
            used.add(step[-1])
    return tuple(steps)


def bindings(member, rows, tests, store):
    """The bindings of rows of the store at which the tests hold, in order."""
    numbers = [[number for number, _ in store.rows_of(table)] if row in rows else [None]
               for row, table in enumerate(member.tables)]
    found = []
    for picked in itertools.product(*numbers):
        choice = tuple(None if number is None else (table, number) for table, number in zip(member.tables, picked))
        if all(value_at(member.tests[test], choice, store) for test in tests):
            found.append(picked)
    return tuple(found)
