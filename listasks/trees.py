"""Canonical trees: building them, changing their leaves, and making loose ones canonical."""

from listasks.cells import FALSE, cell_text, merged_tests, node_parts, nodes_inside, with_node_parts
from listasks.kinds import is_ascending
from listasks.lifting import lifted_cell
from listasks.walks import fold

NONE = ("none",)
_NOTHING = ("record", ())


def for_of(table, tree):
    return NONE if tree == NONE else ("for", table, tree)


def parts_of(trees):
    parts = []
    for tree in trees:
        if tree[0] == "parts":
            parts.extend(tree[1])
        elif tree != NONE:
            parts.append(tree)
    if len(parts) < 2:
        return parts[0] if parts else NONE
    return ("parts", tuple(parts))


def leaf_of(tests, thing):
    row = merged_tests(tests, ())
    return NONE if FALSE in row else ("leaf", row, thing)


def _trees_in(tree):
    """Return the trees directly within a tree, those in the thing of a leaf left out."""
    return () if tree[0] == "leaf" else node_parts(tree)


def _remade(tree, parts):
    """Return a tree, but no leaf, with these trees within it."""
    return for_of(tree[1], parts[0]) if tree[0] == "for" else parts_of(parts)


def _placed_leaves(tree, depth):
    """List (leaf, its depth) from the left to the right."""
    found = []
    todo = [(tree, depth)]
    while todo:
        node, at = todo.pop()
        if node[0] == "leaf":
            found.append((node, at))
        inner = at + 1 if node[0] == "for" else at
        todo.extend([(part, inner) for part in _trees_in(node)[::-1]])
    return found


def _with_leaves(tree, trees):
    """Return the tree with these trees, one for each leaf in order, in the place of its leaves."""
    rest = list(trees[::-1])
    return fold(tree, _trees_in, lambda node, parts: _remade_or_next(node, parts, rest))


def _remade_or_next(node, parts, rest):
    return rest.pop() if node[0] == "leaf" else _remade(node, parts)


def _under(tests, tree, depth):
    """Return the tree under tests that stand at the depth, as the tree does."""
    if not tests:
        return tree
    lifted = {}
    leaves = []
    for (_, inner, thing), at in _placed_leaves(tree, depth):
        if at not in lifted:
            lifted[at] = [lifted_cell(test, depth, at - depth) for test in tests]
        leaves.append(leaf_of([*inner, *lifted[at]], thing))
    return _with_leaves(tree, leaves)


def when(test, tree, depth):
    return _under((test,), tree, depth)


def graft(tree, depth, function):
    return grafted(tree, depth, [function(thing, at) for thing, at in placed_things(tree, depth)])


def placed_things(tree, depth):
    """List (thing, its depth) of the leaves from the left to the right."""
    return [(leaf[2], at) for leaf, at in _placed_leaves(tree, depth)]


def grafted(tree, depth, trees):
    """Return the tree with these trees, one for each leaf in order, grafted on its leaves."""
    pairs = list(zip(_placed_leaves(tree, depth), trees))
    return _with_leaves(tree, [_under(leaf[1], new, at) for (leaf, at), new in pairs])


def without_things(tree):
    return _with_leaves(tree, [("leaf", leaf[1], _NOTHING) for leaf, _ in _placed_leaves(tree, 0)])


def leaves_of(tree, depth=0):
    found = []
    todo = [((), (), tree)]
    while todo:
        items, tables, node = todo.pop()
        if node[0] == "leaf":
            found.append((items, tables, node[1], node[2]))
        elif node[0] == "for":
            row = ("row", depth + len(tables))
            todo.append((items + (row,), tables + (node[1],), node[2]))
        elif node[0] == "parts":
            for part in reversed(range(len(node[1]))):
                todo.append((items + (("part", part),), tables, node[1][part]))
    return tuple(found)


def tree_fault(tree):
    todo = [((), 0, tree)]
    while todo:
        items, row, node = todo.pop()
        word = _own_fault(node)
        if word is None and node[0] == "leaf" and not _is_canonical_within(node):
            word = "inside"
        if word is not None:
            return (items, word)
        if node[0] == "for":
            todo.append((items + (("row", row),), row + 1, node[2]))
        elif node[0] == "parts":
            for part in reversed(range(len(node[1]))):
                todo.append((items + (("part", part),), row, node[1][part]))
    return None


def _own_fault(node):
    """Return the first word that applies to a node itself, whatever stands within it, or None."""
    if node[0] == "for":
        return "none" if node[2] == NONE else None
    if node[0] == "parts":
        return _parts_fault(node[1])
    return _tests_fault(node[1]) if node[0] == "leaf" else None


def _parts_fault(trees):
    if len(trees) < 2:
        return "parts"
    if any([tree[0] == "parts" for tree in trees]):
        return "nested"
    return "none" if NONE in trees else None


def _tests_fault(tests):
    if any([test[0] in ("and", "truth") for test in tests]):
        return "split"
    return None if is_ascending([cell_text(test) for test in tests]) else "tests"


def _is_canonical_within(leaf):
    """Tell whether a leaf and the trees within its tests and its thing are canonical."""
    return all([_own_fault(node) is None for node in nodes_inside(leaf)])


def rebuilt(tree):
    return fold(tree, node_parts, _rebuilt_node)


def _rebuilt_node(node, parts):
    word = node[0] if isinstance(node, tuple) else ""
    if word == "leaf":
        return leaf_of(parts[:-1], parts[-1])
    if word == "for" or word == "parts":
        return _remade(node, parts)
    return with_node_parts(node, parts)
