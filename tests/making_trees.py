"""Cells, things and trees made by chance, from a seed, over the heads of tests/making.py."""

from listasks.stores import Store
from tests.making import HEADS
from tests.treesref import canonical

COLUMNS = dict(HEADS)
TABLES = tuple(COLUMNS)
TEXTS = ("a", "b", "")


def least_cell(chance, kind, tables):
    """A constant, or a column of one of the rows, which are rows of these tables."""
    columns = [("column", row, column) for row, table in enumerate(tables)
               for column, found in COLUMNS[table] if found == kind]
    if columns and chance.random() < 0.7:
        return chance.choice(columns)
    if kind == "int":
        return ("number", chance.randrange(-1, 3))
    if kind == "text":
        return ("text", chance.choice(TEXTS))
    return ("truth", chance.random() < 0.5)


def any_cell(chance, kind, tables, deep):
    if deep <= 1 or chance.random() < 0.2:
        return least_cell(chance, kind, tables)

    def part(other):
        return any_cell(chance, other, tables, deep - 1)

    pick = chance.randrange(5)
    if pick == 0 or kind == "text":
        return ("if", part("truth"), part(kind), part(kind))
    if kind == "int":
        if pick < 3:
            return (chance.choice(("plus", "minus", "times")), part("int"), part("int"))
        word = chance.choice(("count", "total"))
        return (word, any_tree(chance, "int" if word == "total" else ("record", ()), tables, deep - 1))
    if pick == 1:
        return ("empty", any_tree(chance, ("record", ()), tables, deep - 1))
    if pick == 2:
        return ("not", part("truth"))
    word = chance.choice(("equal", "less", "and", "or"))
    other = "int" if word == "less" else "truth"
    if word == "equal":
        other = chance.choice(("int", "text", "truth"))
    return (word, part(other), part(other))


def any_thing(chance, kind, tables, deep):
    if isinstance(kind, str):
        return any_cell(chance, kind, tables, min(deep, 2))
    if kind[0] == "record":
        return ("record", tuple((label, any_thing(chance, part, tables, deep)) for label, part in kind[1]))
    return ("list", any_tree(chance, kind[1], tables, deep - 1))


def any_tree(chance, kind, tables, deep):
    """A loose tree of things of a kind."""
    pick = chance.randrange(8)
    if pick < 3 and deep > 1:
        table = chance.choice(TABLES)
        return ("for", table, any_tree(chance, kind, tables + (table,), deep - 1))
    if pick < 5 and deep > 1:
        return ("parts", tuple(any_tree(chance, kind, tables, deep - 1) for _ in range(chance.randrange(4))))
    if pick == 5:
        return ("none",)
    tests = [any_cell(chance, "truth", tables, min(deep, 3)) for _ in range(chance.choice((0, 0, 1, 2)))]
    if tests and chance.random() < 0.3:
        tests.append(chance.choice(tests))
    return ("leaf", tuple(tests), any_thing(chance, kind, tables, deep))


KINDS = (
    "int",
    "text",
    ("record", ()),
    ("record", (("a", "int"), ("b", ("record", (("c", "text"), ("d", ("record", ()))))))),
    ("list", "int"),
    ("list", ("list", ("record", ()))),
    ("record", (("a", ("list", "text")), ("b", "truth"), ("c", ("list", ("list", "int"))))),
    ("record", (("a", ("list", ("record", (("x", "int"), ("y", ("list", "text")))))),
                ("b", ("record", (("c", ("list", "int")), ("d", "text")))))),
)


def any_canonical(chance, kind, tables=(), deep=4):
    return canonical(any_tree(chance, kind, tables, deep))


def any_rows(chance):
    """A store with some rows, some of them put and taken again."""
    store = Store(HEADS)
    for _ in range(chance.randrange(5)):
        store.put("dept", (chance.choice(TEXTS),))
    for _ in range(chance.randrange(5)):
        store.put("emp", (chance.randrange(3), chance.random() < 0.5, chance.choice(TEXTS)))
    for table in TABLES:
        for number, _ in store.rows_of(table):
            if chance.random() < 0.25:
                store.take(table, number)
    return store


def any_choice(chance, tables, store):
    """A row for each of the tables, or None if one of them has no row."""
    rows = [[number for number, _ in store.rows_of(table)] for table in tables]
    if not all(rows):
        return None
    return tuple((table, chance.choice(numbers)) for table, numbers in zip(tables, rows))
