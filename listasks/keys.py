"""Keys, and the values that a tree tells over a store."""

from listasks.kinds import is_integer
from listasks.walks import fold
from listasks.worths import all_true, choice_in_tuples, held, worth


def goes_before(one, other):
    return one < other


def key_begins(one, other):
    return other[:len(one)] == one


def key_from(items, choice):
    return tuple([choice[at][1] if word == "row" else at for word, at in items])


def told_rows(tree, choice, store):
    leaves = list(held(tree, choice, store))
    return tuple([(key, value_of(thing, rows, store)) for key, rows, thing in leaves])


def value_of(thing, choice, store):
    return fold(
        (thing, choice),
        lambda told: _parts_told(told[0], told[1], store),
        lambda told, values: _value_told(told[0], told[1], values, store),
    )


def _parts_told(thing, choice, store):
    """Return the (thing, choice) of the values directly within that of a thing."""
    if thing[0] == "record":
        return [(part, choice) for _, part in thing[1]]
    if thing[0] != "list":
        return ()
    tree = thing[1]
    return [(inner, rows) for _, rows, inner in held(tree, choice, store)]


def _value_told(thing, choice, values, store):
    if thing[0] == "record":
        return tuple([(label, value) for (label, _), value in zip(thing[1], values)])
    return list(values) if thing[0] == "list" else worth(thing, choice, store)


def told_values(tree, choice, store):
    return value_of(("list", tree), choice, store)


def value_for_key(tree, key, choice, store):
    node = tree
    rows = choice_in_tuples(choice)
    for item in key:
        if not is_integer(item):
            return None
        if node[0] == "for" and item in [number for number, _ in store.rows_of(node[1])]:
            rows = rows + ((node[1], item),)
            node = node[2]
        elif node[0] == "parts" and 0 <= item < len(node[1]):
            node = node[1][item]
        else:
            return None
    if node[0] != "leaf" or not all_true(node[1], rows, store):
        return None
    return (rows, value_of(node[2], rows, store))
