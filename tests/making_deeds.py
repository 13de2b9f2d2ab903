"""Deeds made by chance, good and bad ones, for desks with the heads of tests/making.py."""

from listasks.desk import Desk
from listasks.texts import term_of
from tests.making import HEADS, any_asking

ASKINGS = (
    "(table emp)",
    "(for e (table emp) (where (field e boss) (one (field e who))))",
    "(for d (table dept) (one (record n (field d name) staff (for e (table emp) (where (equal (field e who) (field d name))"
    " (one (field e age)))))))",
    "(for e (table emp) (one (count (for f (table emp) (where (equal (field f who) (field e who)) (one 1))))))",
    "(if (empty (table dept)) (one \"none\") (for d (table dept) (one (field d name))))",
    "(as (none) (list int))",
)
DEFINED = (
    ("dup", "(fn x (join (one x) (one x)))"),
    ("names", "(for d (table dept) (one (field d name)))"),
    ("both", "(fn x (use dup (use dup x)))"),
    ("old", "(fn e (less 1 (field (as e (record age int boss truth who text)) age)))"),
)
USING = (
    "(use dup 1)",
    "(for n names (one (use dup n)))",
    "(for e (table emp) (where (use old e) (one (use both (field e who)))))",
)
KEEPING = ("k1", "k2", "k3")
BAD = (
    None, (), ("go",), ("put", "dept"), ("put", "Dept", ("a",)), ("put", "zoo", ("a",)), ("put", "dept", (1,)), ("put", "dept", ("a", "b")),
    ("take", "dept", 0), ("take", "dept", 99), ("take", "zoo", 1), ("define", "v1", ("none",)), ("define", "x", ("name", "y")),
    ("ask", ("number", 1)), ("ask", ("one", ("name", "nobody"))), ("ask", ("plus", ("number", 1))), ("keep", "k1", ("number", 1)),
    ("told", "nobody"), ("drop", "nobody"), ("compare", ("one", ("number", 1)), ("one", ("text", "a"))),
    ("compare", ("one", ("truth", True)), ("one", ("truth", True))),
)


def any_term(chance):
    if chance.random() < 0.3:
        return any_asking(chance, 4, defined=False)
    return term_of(chance.choice(ASKINGS + USING))


def any_deed(chance):
    """A deed of any word, which a desk may let by or not."""
    word = chance.choice(("put", "put", "put", "take", "take", "define", "ask", "keep", "keep", "told", "told", "drop", "compare", "bad"))
    if word == "put":
        if chance.random() < 0.5:
            return ("put", "dept", (chance.choice("ab"),))
        return ["put", "emp", [chance.randrange(3), chance.random() < 0.5, chance.choice("ab")]]
    if word == "take":
        return ("take", chance.choice(("dept", "emp")), chance.randrange(1, 5))
    if word == "define":
        name, text = chance.choice(DEFINED)
        return ("define", name, term_of(text))
    if word == "keep":
        return ("keep", chance.choice(KEEPING), any_term(chance))
    if word in ("told", "drop"):
        return (word, chance.choice(KEEPING))
    if word == "compare":
        return ("compare", term_of(chance.choice(ASKINGS[1:2] + ASKINGS[4:])), term_of(chance.choice(ASKINGS)))
    return chance.choice(BAD) if word == "bad" else ("ask", any_term(chance))


def any_desk(chance, deeds):
    """A desk at which some deeds have been tried."""
    desk = Desk(HEADS)
    try_deeds(desk, [any_deed(chance) for _ in range(deeds)])
    return desk


def try_deeds(desk, deeds):
    """What each deed returns, or the error it raises as (name of its class, its attributes ..)."""
    told = []
    for deed in deeds:
        try:
            told.append(desk.perform(deed))
        except ValueError as error:
            told.append((error.__class__.__name__, *vars(error).values()))
    return told
