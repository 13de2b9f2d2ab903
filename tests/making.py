"""Terms made by chance, from a seed: the same ones in every run."""

from listasks.stores import Store
from listasks.terms import depth_of, nodes_of

LABELS = ("a", "b", "c")
ONE_PART = ("one", "not", "empty", "count", "total")
TWO_PARTS = ("use", "join", "where", "plus", "minus", "times", "equal", "less", "and", "or")
NAMES = ("x", "y", "z", "v1", "v2")


def any_term(chance, deep):
    """A term of any words, whether its kinds fit or not."""
    pick = chance.randrange(12) if deep > 1 else chance.randrange(4)
    if pick < 3:
        return ("name", chance.choice(NAMES))
    if pick == 3:
        return chance.choice((("number", chance.randrange(-3, 9)), ("text", "t"), ("truth", True), ("none",),
                              ("table", "emp"), ("record", ())))
    if pick < 6:
        return ("fn", chance.choice(NAMES), any_term(chance, deep - 1))
    if pick < 8:
        word = chance.choice(("let", "for"))
        return (word, chance.choice(NAMES), any_term(chance, deep - 1), any_term(chance, deep - 1))
    if pick == 8:
        return (chance.choice(ONE_PART), any_term(chance, deep - 1))
    if pick == 9:
        return (chance.choice(TWO_PARTS), any_term(chance, deep - 1), any_term(chance, deep - 1))
    if pick == 10:
        labels = sorted(chance.sample(LABELS, chance.randrange(4)))
        return ("record", tuple((label, any_term(chance, deep - 1)) for label in labels))
    return chance.choice((
        ("if", any_term(chance, deep - 1), any_term(chance, deep - 1), any_term(chance, deep - 1)),
        ("field", any_term(chance, deep - 1), chance.choice(LABELS)),
        ("as", any_term(chance, deep - 1), chance.choice(("int", ("list", "text")))),
    ))


def unnamed(term, around=()):
    """The term with each bound name told by the number of bindings between, and no binder named."""
    word = term[0]
    if word == "name":
        for back, name in enumerate(reversed(around)):
            if name == term[1]:
                return ("bound", back)
        return term
    if word == "fn":
        return ("fn", unnamed(term[2], around + (term[1],)))
    if word in ("let", "for"):
        return (word, unnamed(term[2], around), unnamed(term[3], around + (term[1],)))
    if word == "record":
        return ("record", tuple((label, unnamed(part, around)) for label, part in term[1]))
    if word == "as":
        return ("as", unnamed(term[1], around), term[2])
    return tuple(unnamed(part, around) if isinstance(part, tuple) else part for part in term)


def apart(term, names=None, count=None):
    """The same term with bound names u1, u2, .. that are all unlike."""
    names = {} if names is None else names
    count = [0] if count is None else count
    word = term[0]
    if word == "name":
        return ("name", names.get(term[1], term[1]))
    if word in ("fn", "let", "for"):
        count[0] += 1
        new = f"u{count[0]}"
        ahead = [apart(part, names, count) for part in term[2:-1]]
        return (word, new, *ahead, apart(term[-1], {**names, term[1]: new}, count))
    if word == "record":
        return ("record", tuple((label, apart(part, names, count)) for label, part in term[1]))
    if word == "as":
        return ("as", apart(term[1], names, count), term[2])
    return tuple(apart(part, names, count) if isinstance(part, tuple) else part for part in term)


HEADS = (("dept", (("name", "text"),)), ("emp", (("age", "int"), ("boss", "truth"), ("who", "text"))))
ROW_KINDS = {table: ("record", columns) for table, columns in HEADS}
ANY = ("any", 0), ("any", 1)
X = ("name", "x")
DEFINITIONS = (
    ("dup", ("fn", "x", ("join", ("one", X), ("one", X)))),
    ("each", ("fn", "f", ("fn", "l", ("for", "x", ("name", "l"), ("one", ("use", ("name", "f"), X)))))),
    ("keep", ("fn", "f", ("fn", "l", ("for", "x", ("name", "l"), ("where", ("use", ("name", "f"), X), ("one", X)))))),
    ("both", ("fn", "x", ("use", ("name", "dup"), ("use", ("name", "dup"), X)))),
    ("emps", ("table", "emp")),
)
# Which function of which kinds a definition is; the functions give what the second kind has for its places.
USES = (
    ("dup", (ANY[0],), ("list", ANY[0])),
    ("each", (("function", ANY[0], ANY[1]), ("list", ANY[0])), ("list", ANY[1])),
    ("keep", (("function", ANY[0], "truth"), ("list", ANY[0])), ("list", ANY[0])),
    ("both", (ANY[0],), ("list", ("list", ANY[0]))),
)
SMALL_KINDS = ("int", "text", "truth", ROW_KINDS["dept"], ROW_KINDS["emp"], ("list", "int"), ("list", "text"))


def least_term(chance, kind):
    """A small term of a kind."""
    if kind == "int":
        return ("number", chance.randrange(-2, 5))
    if kind == "text":
        return ("text", chance.choice(("a", "b", "")))
    if kind == "truth":
        return ("truth", chance.random() < 0.5)
    if kind[0] == "list":
        for table, row in ROW_KINDS.items():
            if row == kind[1] and chance.random() < 0.8:
                return ("table", table)
        return ("none",) if chance.random() < 0.3 else ("one", least_term(chance, kind[1]))
    if kind[0] == "record":
        return ("record", tuple((label, least_term(chance, part)) for label, part in kind[1]))
    return ("fn", chance.choice("xyz"), least_term(chance, kind[2]))


def put(kind, choices):
    if isinstance(kind, str):
        return kind
    if kind[0] == "any":
        return choices[kind[1]]
    if kind[0] == "record":
        return ("record", tuple((label, put(part, choices)) for label, part in kind[1]))
    return (kind[0], *[put(part, choices) for part in kind[1:]])


def term_of_kind(chance, kind, names, deep, defined=True):
    """A term of a kind by chance; names is a dict from names to kinds."""
    known = [name for name, found in names.items() if found == kind]
    if known and chance.random() < 0.4:
        return ("name", chance.choice(known))
    if deep <= 1:
        return least_term(chance, kind)

    def more(other, added=()):
        return term_of_kind(chance, other, {**names, **dict(added)}, deep - 1, defined)

    name = chance.choice("xyz")
    pick = chance.randrange(11)
    if pick == 0:
        other = chance.choice(SMALL_KINDS)
        return ("let", name, more(other), more(kind, [(name, other)]))
    if pick == 1:
        other = chance.choice(SMALL_KINDS)
        return ("use", ("fn", name, more(kind, [(name, other)])), more(other))
    if pick == 2:
        return ("if", more("truth"), more(kind), more(kind))
    if pick == 3:
        fields = {"a": kind, "b": chance.choice(SMALL_KINDS)}
        return ("field", more(("record", tuple(fields.items()))), "a")
    if pick == 4:
        return ("as", more(kind), kind)
    if pick == 5 and defined and any(case(kind, made) is not None for _, _, made in USES):
        return used_definition(chance, kind, more)
    return term_by_kind(chance, kind, name, more)


def case(kind, general):
    """The choices that make a kind of a general one, or None."""
    chosen = {}

    def fits(part, mould):
        if mould[0] == "any":
            return chosen.setdefault(mould[1], part) == part
        if isinstance(mould, str) or isinstance(part, str) or mould[0] != part[0]:
            return part == mould
        return all(fits(one, other) for one, other in zip(part[1:], mould[1:]))

    return chosen if fits(kind, general) else None


def used_definition(chance, kind, more):
    fits = [entry for entry in USES if case(kind, entry[2]) is not None]
    function, given, made = chance.choice(fits)
    choices = {0: chance.choice(SMALL_KINDS), 1: chance.choice(SMALL_KINDS), **case(kind, made)}
    term = ("name", function)
    for part in given:
        term = ("use", term, more(put(part, choices)))
    return term


def term_by_kind(chance, kind, name, more):
    """A term that begins with a word that makes things of this kind."""
    other = chance.choice(SMALL_KINDS)
    if kind == "int":
        word = chance.choice(("plus", "minus", "times", "count", "total"))
        if word == "count":
            return ("count", more(("list", other)))
        return ("total", more(("list", "int"))) if word == "total" else (word, more("int"), more("int"))
    if kind == "truth":
        word = chance.choice(("equal", "less", "and", "or", "not", "empty"))
        if word == "equal":
            base = chance.choice(("int", "text", "truth"))
            return ("equal", more(base), more(base))
        if word == "empty":
            return ("empty", more(("list", other)))
        part = "int" if word == "less" else "truth"
        return ("not", more(part)) if word == "not" else (word, more(part), more(part))
    if kind == "text":
        return ("field", more(ROW_KINDS["emp"]), "who")
    if kind[0] == "record":
        return ("record", tuple((label, more(part)) for label, part in kind[1]))
    if kind[0] == "function":
        return ("fn", name, more(kind[2], [(name, kind[1])]))
    word = chance.choice(("one", "join", "where", "for", "for"))
    if word == "one":
        return ("one", more(kind[1]))
    if word == "join":
        return ("join", more(kind), more(kind))
    if word == "where":
        return ("where", more("truth"), more(kind))
    return ("for", name, more(("list", other)), more(kind, [(name, other)]))


ANSWER_KINDS = (
    ("list", "int"), ("list", "text"), ("list", ROW_KINDS["emp"]), ("list", ("list", "int")),
    ("list", ("record", (("a", "int"), ("b", ("list", "text"))))),
)


def any_asking(chance, deep=5, defined=True):
    """An asking, small enough to be let by, that fits HEADS and DEFINITIONS."""
    while True:
        names = {"emps": ("list", ROW_KINDS["emp"])} if defined else {}
        term = term_of_kind(chance, chance.choice(ANSWER_KINDS), names, deep, defined)
        if nodes_of(term) <= 150 and depth_of(term) <= 20:
            return term


def any_store(chance):
    store = Store(HEADS)
    for _ in range(chance.randrange(4)):
        store.put("dept", (chance.choice("ab"),))
    for _ in range(chance.randrange(4)):
        store.put("emp", (chance.randrange(3), chance.random() < 0.5, chance.choice("ab")))
    return store
