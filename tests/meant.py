"""The plain meaning told by another way: by calling, and with functions of Python as functions."""


def meant(program, store):
    """The value of the asking, and the tables read, in order."""
    reads = []
    value = value_of_term(program.asking, {}, dict(program.definitions), store, reads)
    return value, tuple(reads)


def value_of_term(term, names, definitions, store, reads):
    """The value of a term under names with values; the tables read go behind `reads`."""

    def told(part, more=()):
        return value_of_term(part, {**names, **dict(more)}, definitions, store, reads)

    word = term[0]
    if word in ("number", "text", "truth"):
        return term[1]
    if word == "none":
        return []
    if word == "name":
        if term[1] in names:
            return names[term[1]]
        return value_of_term(definitions[term[1]], {}, definitions, store, reads)
    if word == "fn":
        return lambda given: told(term[2], [(term[1], given)])
    if word == "table":
        reads.append(term[1])
        columns = dict(store.heads)[term[1]]
        return [tuple((column, store.cell_at(term[1], number, column)) for column, _ in columns)
                for number, _ in store.rows_of(term[1])]
    if word == "record":
        return tuple((label, told(part)) for label, part in term[1])
    if word == "field":
        return dict(told(term[1]))[term[2]]
    first = told(term[2] if word in ("let", "for") else term[1])
    if word == "let":
        return told(term[3], [(term[1], first)])
    if word == "for":
        return [value for item in first for value in told(term[3], [(term[1], item)])]
    if word == "if":
        return told(term[2] if first else term[3])
    if word == "where":
        return told(term[2]) if first else []
    if word in ONE_PART:
        return ONE_PART[word](first)
    return TWO_PARTS[word](first, told(term[2]))


ONE_PART = {
    "one": lambda value: [value],
    "as": lambda value: value,
    "not": lambda value: not value,
    "empty": lambda value: value == [],
    "count": len,
    "total": sum,
}
TWO_PARTS = {
    "use": lambda used, given: used(given),
    "join": lambda one, other: one + other,
    "plus": lambda one, other: one + other,
    "minus": lambda one, other: one - other,
    "times": lambda one, other: one * other,
    "equal": lambda one, other: one == other,
    "less": lambda one, other: one < other,
    "and": lambda one, other: one and other,
    "or": lambda one, other: one or other,
}
