"""Plain programs, pieces and stores made by chance; maps and foldings told by another way."""

import itertools

from listasks.programs import Program
from listasks.stores import Store
from listasks.terms import depth_of, nodes_of

# A table of two texts, one of a text, a truth and a number, and one without anything that a piece knows.
HEADS = (
    ("edge", (("a", "text"), ("b", "text"))),
    ("mark", (("at", "text"), ("hot", "truth"), ("n", "int"))),
    ("on", (("yes", "truth"),)),
)
COLUMNS = {table: [(column, kind) for column, kind in columns if kind != "truth"] for table, columns in HEADS}
TABLES = ("edge", "edge", "edge", "mark", "mark", "on")
KINDS = (
    ("list", "text"),
    ("list", "int"),
    ("list", ("record", ())),
    ("list", ("record", (("p", "text"), ("q", "int")))),
    ("list", ("record", (("p", "text"), ("q", "text")))),
)
DEFINITIONS = (
    ("edges", ("table", "edge")),
    ("twin", ("fn", "x", ("fn", "y", ("equal", ("as", ("name", "x"), "text"), ("name", "y"))))),
    ("same", ("fn", "x", ("name", "x"))),
)
CONSTANTS = {"text": (("text", "a"), ("text", "b")), "int": (("number", 0), ("number", 7))}


def value_term(chance, kind, rows):
    """A column of one of the rows, or a constant."""
    columns = [("field", ("name", name), column) for name, table in rows for column, found in COLUMNS[table] if found == kind]
    if columns and chance.random() < 0.8:
        return chance.choice(columns)
    return chance.choice(CONSTANTS[kind])


def test_term(chance, rows):
    kind = chance.choice(("text", "text", "int"))
    one, other = value_term(chance, kind, rows), value_term(chance, kind, rows)
    if kind == "text" and chance.random() < 0.2:
        return ("use", ("use", ("name", "twin"), one), other)
    return ("equal", one, other)


def thing_term(chance, kind, rows):
    if isinstance(kind, str):
        term = value_term(chance, kind, rows)
        return ("use", ("name", "same"), term) if chance.random() < 0.1 else term
    return ("record", tuple((label, value_term(chance, part, rows)) for label, part in kind[1]))


def any_member_term(chance, kind, most):
    """A term that tells what one member says, its tests here and there."""
    rows = [(f"x{at}", chance.choice(TABLES)) for at in range(chance.randrange(most + 1))]
    term = ("one", thing_term(chance, kind[1], rows))
    for at in reversed(range(len(rows) + 1)):
        for _ in range(chance.choice((0, 0, 1, 1, 2))):
            test = test_term(chance, rows[:at])
            if chance.random() < 0.2:
                test = ("and", test, test_term(chance, rows[:at]))
            term = ("where", test, term)
        if at > 0:
            name, table = rows[at - 1]
            tables = ("name", "edges") if table == "edge" and chance.random() < 0.2 else ("table", table)
            if chance.random() < 0.1:
                tables = ("for", "z", tables, ("one", ("name", "z")))
            if chance.random() < 0.1:
                term = ("for", name, ("none",), term) if chance.random() < 0.1 else ("let", "w", tables, ("for", name, ("name", "w"), term))
            else:
                term = ("for", name, tables, term)
    return term


def any_plain_asking(chance, kind, most=3):
    """A plain asking of a kind that is small enough to be let by."""
    while True:
        terms = [any_member_term(chance, kind, most) for _ in range(chance.choice((0, 1, 1, 2, 2, 3)))]
        asking = ("as", ("none",), kind)
        for term in terms:
            asking = ("join", term, asking) if chance.random() < 0.5 else ("join", asking, term)
        if nodes_of(asking) <= 150 and depth_of(asking) <= 20:
            return asking


def any_plain_program(chance, kind=None, most=3):
    return Program(HEADS, DEFINITIONS, any_plain_asking(chance, kind or chance.choice(KINDS), most))


def is_small(*lots):
    """Whether the pieces keep the bounds of [15.7]."""
    pieces = [piece for lot in lots for piece in lot]
    constants = {worth for piece in pieces for worths in [row for _, row in piece.rows] + [piece.shown]
                 for worth in worths if worth[0] != "unknown"}
    return all(len(piece.kinds) <= 5 for piece in pieces) and len(constants) <= 4


def any_small_store(chance, most=4):
    store = Store(HEADS)
    for table, columns in HEADS:
        for _ in range(chance.randrange(most + 1)):
            store.put(table, tuple({"text": chance.choice("aab"), "int": chance.choice((0, 0, 7)), "truth": chance.random() < 0.5}[kind]
                                   for _, kind in columns))
        for number, _ in store.rows_of(table):
            if chance.random() < 0.15:
                store.take(table, number)
    return store


def all_maps(piece, store):
    """The (numbers, values of the unknowns) of all maps, tried one by one."""
    kinds = {table: [kind for _, kind in columns] for table, columns in store.heads}
    lots = [[(number, [cell for cell, kind in zip(cells, kinds[table]) if kind != "truth"]) for number, cells in store.rows_of(table)]
            for table, _ in piece.rows]
    found = []
    for picked in itertools.product(*lots):
        said = {}
        for (_, worths), (_, cells) in zip(piece.rows, picked):
            for worth, cell in zip(worths, cells):
                said.setdefault(worth, set()).add(cell)
        if all(len(cells) == 1 and (word == "unknown" or cells == {value}) for (word, value), cells in said.items()):
            found.append((tuple(number for number, _ in picked), {worth: min(cells) for worth, cells in said.items()}))
    return found


def shown_of(piece, values):
    return tuple(values[worth] if worth[0] == "unknown" else worth[1] for worth in piece.shown)


def shown_in(kind, value):
    """The values that an item of an answer of a plain kind shows."""
    return (value,) if isinstance(kind[1], str) else tuple(part for _, part in value)
