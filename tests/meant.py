"""The plain meaning told by another way: by calling, and with functions of Python as functions."""


def meant(program, store):
    """The value of the asking, and the tables read, in order."""
    reads = []
    definitions = dict(program.definitions)

    def told(term, names):
        word = term[0]
        if word in ("number", "text", "truth"):
            return term[1]
        if word == "none":
            return []
        if word == "name":
            return names[term[1]] if term[1] in names else told(definitions[term[1]], {})
        if word == "fn":
            return lambda given: told(term[2], {**names, term[1]: given})
        if word == "table":
            reads.append(term[1])
            columns = dict(store.heads)[term[1]]
            return [tuple((column, store.cell_at(term[1], number, column)) for column, _ in columns)
                    for number, _ in store.rows_of(term[1])]
        if word == "record":
            return tuple((label, told(part, names)) for label, part in term[1])
        if word == "field":
            return dict(told(term[1], names))[term[2]]
        first = told(term[2] if word in ("let", "for") else term[1], names)
        if word == "let":
            return told(term[3], {**names, term[1]: first})
        if word == "for":
            return [value for item in first for value in told(term[3], {**names, term[1]: item})]
        if word == "if":
            return told(term[2] if first else term[3], names)
        if word == "where":
            return told(term[2], names) if first else []
        if word in ONE_PART:
            return ONE_PART[word](first)
        return TWO_PARTS[word](first, told(term[2], names))

    value = told(program.asking, {})
    return value, tuple(reads)


ONE_PART = {
    "one": lambda value: [value],
    "as": lambda value: value,
    "not": lambda value: not value,
    "empty": lambda value: value == [],
    "count": len,
    "total": sum,
}
TWO_PARTS = {
    "use": lambda used, given: used(given),
    "join": lambda one, other: one + other,
    "plus": lambda one, other: one + other,
    "minus": lambda one, other: one - other,
    "times": lambda one, other: one * other,
    "equal": lambda one, other: one == other,
    "less": lambda one, other: one < other,
    "and": lambda one, other: one and other,
    "or": lambda one, other: one or other,
}
