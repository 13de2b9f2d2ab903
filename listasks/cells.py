"""Cells, things and trees: what stands within them, their forms and texts, and rows of tests."""

from listasks.walks import fold
from listasks.words import print_form

TRUE = ("truth", True)
FALSE = ("truth", False)
# Cells and trees within which nothing stands.
_ALONE = ("number", "text", "truth", "column", "none")


def not_of(a):
    if a == TRUE:
        return FALSE
    return TRUE if a == FALSE else ("not", a)


def and_of(a, b):
    if a == FALSE or b == FALSE:
        return FALSE
    if a == TRUE:
        return b
    return a if b == TRUE else ("and", a, b)


def or_of(a, b):
    if a == TRUE or b == TRUE:
        return TRUE
    if a == FALSE:
        return b
    return a if b == FALSE else ("or", a, b)


def if_of(c, a, b):
    if c == TRUE:
        return a
    return b if c == FALSE else ("if", c, a, b)


def node_parts(node):
    """Return the cells, things and trees directly within one of these, from the left to the right.

    What is no tuple has none: while a program is read, functions stand among the things.
    """
    if not isinstance(node, tuple) or node[0] in _ALONE:
        return ()
    word = node[0]
    if word == "leaf":
        return node[1] + (node[2],)
    if word == "record":
        return tuple([part for _, part in node[1]])
    if word == "parts":
        return node[1]
    if word == "for":
        return (node[2],)
    return node[1:]


def with_node_parts(node, parts):
    """Return a cell, a thing or a tree, but no leaf, with as many other parts."""
    if not isinstance(node, tuple) or node[0] in _ALONE:
        return node
    word = node[0]
    if word == "record":
        labels = [label for label, _ in node[1]]
        return ("record", tuple(zip(labels, parts)))
    if word == "parts":
        return ("parts", tuple(parts))
    if word == "for":
        return ("for", node[1], parts[0])
    return (word, *parts)


def nodes_inside(node):
    """List the cell, thing or tree and all within it, however deep; what is no tuple is left out."""
    found = []
    todo = [node]
    while todo:
        part = todo.pop()
        if isinstance(part, tuple):
            found.append(part)
            todo.extend(node_parts(part))
    return found


def _form_made(node, forms):
    word = node[0]
    if word == "number":
        return node[1]
    if word == "truth":
        return ("truth", "yes" if node[1] else "no")
    if word in _ALONE:
        return node
    if word == "leaf":
        return ("leaf", ("tests", *forms[:-1]), forms[-1])
    if word == "record":
        couples = [(label, form) for (label, _), form in zip(node[1], forms)]
        return ("record", *[item for couple in couples for item in couple])
    if word == "for":
        return ("for", node[1], forms[0])
    return (word, *forms)


def cell_form(cell):
    return fold(cell, node_parts, _form_made)


def tree_form(tree):
    return fold(tree, node_parts, _form_made)


def thing_form(thing):
    return fold(thing, node_parts, _form_made)


def cell_text(cell):
    return print_form(cell_form(cell))


def tree_text(tree):
    return print_form(tree_form(tree))


def thing_text(thing):
    return print_form(thing_form(thing))


def tests_of(cell):
    return merged_tests((cell,), ())


def merged_tests(one, other):
    tests = {}
    todo = [*one, *other]
    while todo:
        cell = todo.pop()
        if cell[0] == "and":
            todo.extend(cell[1:])
        elif cell == FALSE:
            return (FALSE,)
        elif cell != TRUE:
            tests[cell_text(cell)] = cell
    return tuple([tests[text] for text in sorted(tests)])


def is_row_of_tests(tests):
    """Tell whether the tests are a row of tests in which FALSE does not stand."""
    return merged_tests(tests, ()) == tests and FALSE not in tests
