"""Moving the rows of cells, things and trees up, and what cells speak of."""

from listasks.cells import merged_tests, node_parts, nodes_inside, with_node_parts
from listasks.walks import fold

_OVER_TREES = ("empty", "count", "total")


def lifted_cell(cell, depth, by):
    return lifted_with(cell, depth, by, None)


def lifted_thing(thing, depth, by):
    return lifted_with(thing, depth, by, None)


def lifted_tree(tree, depth, by):
    return lifted_with(tree, depth, by, None)


def lifted_with(node, depth, by, move):
    """Lift a cell, thing or tree; what stands in it and is no tuple is lifted by move(part)."""
    return fold(node, node_parts, lambda part, parts: _lifted_part(part, parts, depth, by, move))


def _lifted_part(node, parts, depth, by, move):
    if not isinstance(node, tuple):
        return move(node)
    if node[0] == "column":
        return ("column", node[1] + by, node[2]) if node[1] >= depth else node
    if node[0] == "leaf":
        # a row of one figure and one of two may change their order
        return ("leaf", merged_tests(parts[:-1], ()), parts[-1])
    return with_node_parts(node, parts)


def rows_spoken(cell, depth):
    rows = set()
    for node in nodes_inside(cell):
        if node[0] == "column" and node[1] < depth:
            rows.add(node[1])
    return tuple(sorted(rows))


def has_sub_question(cell):
    """Tell whether "empty", "count" or "total" occurs in a cell."""
    return any([node[0] in _OVER_TREES for node in nodes_inside(cell)])


def tables_within(cell):
    tables = set()
    for node in nodes_inside(cell):
        if node[0] == "for":
            tables.add(node[1])
    return tuple(sorted(tables))
