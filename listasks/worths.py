"""What cells are worth over a store, the leaves that trees hold, and the kinds of cells."""

from listasks.errors import BadCell
from listasks.kinds import is_base

_WRITTEN = {"number": "int", "text": "text", "truth": "truth"}
_OVER_TREES = {"empty": "truth", "count": "int", "total": "int"}
# The base kind of the parts and that of the whole.
_KINDS = {
    "plus": ("int", "int"),
    "minus": ("int", "int"),
    "times": ("int", "int"),
    "less": ("int", "truth"),
    "and": ("truth", "truth"),
    "or": ("truth", "truth"),
    "not": ("truth", "truth"),
}


def worth(cell, choice, store):
    word = cell[0]
    if word in _WRITTEN:
        return cell[1]
    if word == "column":
        table, number = choice[cell[1]]
        return store.cell_at(table, number, cell[2])
    if word in _OVER_TREES:
        return _tree_worth(word, cell[1], choice, store)
    if word == "if":
        return worth(cell[2] if worth(cell[1], choice, store) else cell[3], choice, store)
    if word == "not":
        return not worth(cell[1], choice, store)
    return _joined_worth(word, worth(cell[1], choice, store), worth(cell[2], choice, store))


def _joined_worth(word, one, other):
    if word == "plus":
        return one + other
    if word == "minus":
        return one - other
    if word == "times":
        return one * other
    if word == "equal":
        return one == other
    if word == "less":
        return one < other
    return one and other if word == "and" else one or other


def _tree_worth(word, tree, choice, store):
    leaves = list(held(tree, choice, store))
    if word == "total":
        return sum([worth(thing, rows, store) for _, rows, thing in leaves])
    return len(leaves) if word == "count" else len(leaves) == 0


def all_true(tests, choice, store):
    """Tell whether all tests are true at the choice; those behind a false one are not asked."""
    for test in tests:
        if not worth(test, choice, store):
            return False
    return True


def choice_in_tuples(choice):
    """Return a choice made of tuples; None stands for a row of which nothing speaks."""
    return tuple([None if couple is None else tuple(couple) for couple in choice])


def held(tree, choice, store):
    todo = [((), choice_in_tuples(choice), tree)]
    while todo:
        key, rows, node = todo.pop()
        if node[0] == "leaf":
            if all_true(node[1], rows, store):
                yield (key, rows, node[2])
        elif node[0] == "parts":
            for part in reversed(range(len(node[1]))):
                todo.append((key + (part,), rows, node[1][part]))
        elif node[0] == "for":
            for number, _ in reversed(store.rows_of(node[1])):
                todo.append((key + (number,), rows + ((node[1], number),), node[2]))


def cell_kind(cell, heads, tables):
    word = cell[0]
    if word in _WRITTEN:
        return _WRITTEN[word]
    if word in _OVER_TREES:
        _ask_tree(cell, heads, tables)
        return _OVER_TREES[word]
    if word == "column":
        kind = _column_kind(cell, heads, tables)
    else:
        kind = _joined_kind(word, [cell_kind(part, heads, tables) for part in cell[1:]])
    if kind is None:
        raise BadCell(cell)
    return kind


def _column_kind(cell, heads, tables):
    """Return the kind of a column, or None if there is no such row, table or column."""
    _, row, column = cell
    if not 0 <= row < len(tables):
        return None
    return dict(_columns_in(heads, tables[row])).get(column)


def _columns_in(heads, table):
    """Return the columns of a table, none if the heads lack it."""
    return dict(heads).get(table, ())


def _joined_kind(word, kinds):
    """Return the kind of a cell whose parts have these kinds, or None if they do not fit."""
    if word == "equal":
        return "truth" if kinds[0] == kinds[1] else None
    if word == "if":
        return kinds[1] if kinds[0] == "truth" and kinds[1] == kinds[2] else None
    due, kind = _KINDS[word]
    return kind if all([part == due for part in kinds]) else None


def _ask_tree(cell, heads, tables):
    """Raise BadCell if the tree of a cell over a tree does not fit."""
    todo = [(cell[1], tuple(tables))]
    while todo:
        node, around = todo.pop()
        if node[0] == "for":
            if not _columns_in(heads, node[1]):
                raise BadCell(cell)
            todo.append((node[2], around + (node[1],)))
        elif node[0] == "parts":
            todo.extend([(part, around) for part in node[1][::-1]])
        elif node[0] == "leaf":
            for test in node[1]:
                if cell_kind(test, heads, around) != "truth":
                    raise BadCell(test)
            _ask_leaf_thing(cell, node[2], heads, around)


def _ask_leaf_thing(cell, thing, heads, tables):
    """Raise BadCell if a leaf's thing does not fit beneath a cell over a tree."""
    if cell[0] != "total":
        if thing != ("record", ()):
            raise BadCell(cell)
    elif thing[0] in ("record", "list"):
        raise BadCell(cell)
    elif cell_kind(thing, heads, tables) != "int":
        raise BadCell(thing)


def thing_fits(thing, kind, heads, tables):
    todo = [("thing", thing, kind, tuple(tables))]
    while todo:
        role, node, due, around = todo.pop()
        if role == "thing":
            inner = _due_within_thing(node, due, heads, around)
        else:
            inner = _due_within_tree(node, due, heads, around)
        if inner is None:
            return False
        todo.extend(inner)
    return True


def _due_within_thing(thing, kind, heads, tables):
    """Return the (role, node, kind, tables) that must fit for the thing to fit, None if it cannot."""
    if is_base(kind):
        return () if _is_cell_of(thing, kind, heads, tables) else None
    if thing[0] != kind[0]:
        return None
    if kind[0] == "list":
        return [("tree", thing[1], kind[1], tables)]
    if [label for label, _ in thing[1]] != [label for label, _ in kind[1]]:
        return None
    pairs = list(zip(thing[1], kind[1]))
    return [("thing", part, due, tables) for (_, part), (_, due) in pairs]


def _due_within_tree(tree, kind, heads, tables):
    """Return what must fit for a tree's things to be of the kind, None if they cannot be."""
    if tree[0] == "for":
        return [("tree", tree[2], kind, tables + (tree[1],))] if _columns_in(heads, tree[1]) else None
    if tree[0] == "parts":
        return [("tree", part, kind, tables) for part in tree[1]]
    if tree[0] == "leaf":
        fits = [_is_cell_of(test, "truth", heads, tables) for test in tree[1]]
        return [("thing", tree[2], kind, tables)] if all(fits) else None
    return ()


def _is_cell_of(thing, kind, heads, tables):
    if thing[0] in ("record", "list"):
        return False
    try:
        return cell_kind(thing, heads, tables) == kind
    except BadCell:
        return False
