"""Terms made by chance, from a seed: the same ones in every run."""

LABELS = ("a", "b", "c")
ONE_PART = ("one", "not", "empty", "count", "total")
TWO_PARTS = ("use", "join", "where", "plus", "minus", "times", "equal", "less", "and", "or")
NAMES = ("x", "y", "z", "v1", "v2")


def any_term(chance, deep):
    """A term of any words, whether its kinds fit or not."""
    pick = chance.randrange(12) if deep > 1 else chance.randrange(4)
    if pick < 3:
        return ("name", chance.choice(NAMES))
    if pick == 3:
        return chance.choice((("number", chance.randrange(-3, 9)), ("text", "t"), ("truth", True), ("none",),
                              ("table", "emp"), ("record", ())))
    if pick < 6:
        return ("fn", chance.choice(NAMES), any_term(chance, deep - 1))
    if pick < 8:
        word = chance.choice(("let", "for"))
        return (word, chance.choice(NAMES), any_term(chance, deep - 1), any_term(chance, deep - 1))
    if pick == 8:
        return (chance.choice(ONE_PART), any_term(chance, deep - 1))
    if pick == 9:
        return (chance.choice(TWO_PARTS), any_term(chance, deep - 1), any_term(chance, deep - 1))
    if pick == 10:
        labels = sorted(chance.sample(LABELS, chance.randrange(4)))
        return ("record", tuple((label, any_term(chance, deep - 1)) for label in labels))
    return chance.choice((
        ("if", any_term(chance, deep - 1), any_term(chance, deep - 1), any_term(chance, deep - 1)),
        ("field", any_term(chance, deep - 1), chance.choice(LABELS)),
        ("as", any_term(chance, deep - 1), chance.choice(("int", ("list", "text")))),
    ))


def unnamed(term, around=()):
    """The term with each bound name told by the number of bindings between, and no binder named."""
    word = term[0]
    if word == "name":
        for back, name in enumerate(reversed(around)):
            if name == term[1]:
                return ("bound", back)
        return term
    if word == "fn":
        return ("fn", unnamed(term[2], around + (term[1],)))
    if word in ("let", "for"):
        return (word, unnamed(term[2], around), unnamed(term[3], around + (term[1],)))
    if word == "record":
        return ("record", tuple((label, unnamed(part, around)) for label, part in term[1]))
    return tuple(unnamed(part, around) if isinstance(part, tuple) and word != "as" else part for part in term) \
        if word != "as" else ("as", unnamed(term[1], around), term[2])
