"""Cells, trees and things read from their forms."""

from listasks.cells import FALSE, TRUE
from listasks.kinds import is_ascending, is_integer, is_name
from listasks.walks import fold
from listasks.words import begins_with

# What stands behind the words of cells that have parts.
_ROLES = {
    "plus": ("cell", "cell"),
    "minus": ("cell", "cell"),
    "times": ("cell", "cell"),
    "equal": ("cell", "cell"),
    "less": ("cell", "cell"),
    "and": ("cell", "cell"),
    "or": ("cell", "cell"),
    "not": ("cell",),
    "if": ("cell", "cell", "cell"),
    "empty": ("tree",),
    "count": ("tree",),
    "total": ("tree",),
}
_TRUE_FORM = ("truth", "yes")
_FALSE_FORM = ("truth", "no")


def cell_of_form(form):
    return _read("cell", form)


def tree_of_form(form):
    return _read("tree", form)


def thing_of_form(form):
    return _read("thing", form)


def _read(role, form):
    """Return what has the form and this role, "cell", "tree" or "thing", or None."""
    todo = [(role, form)]
    while todo:
        inner = _forms_within(todo.pop())
        if inner is None:
            return None
        todo.extend(inner)
    return fold((role, form), _forms_within, _made)


def _forms_within(due):
    """Return the (role, form) directly within a form with its role, or None if it has another one."""
    role, form = due
    if is_integer(form):
        return () if role != "tree" else None
    if not isinstance(form, tuple) or len(form) == 0 or not isinstance(form[0], str):
        return None
    if role == "tree":
        return _within_tree(form)
    if role == "thing" and form[0] == "record":
        return _within_record(form)
    if role == "thing" and form[0] == "list":
        return [("tree", form[1])] if len(form) == 2 else None
    return _within_cell(form)


def _within_cell(form):
    word = form[0]
    if word == "text":
        return () if len(form) == 2 and isinstance(form[1], str) else None
    if word == "truth":
        return () if form == _TRUE_FORM or form == _FALSE_FORM else None
    if word == "column":
        return () if len(form) == 3 and _is_row(form[1]) and is_name(form[2]) else None
    if word not in _ROLES or len(form) != len(_ROLES[word]) + 1:
        return None
    return list(zip(_ROLES[word], form[1:]))


def _is_row(thing):
    return is_integer(thing) and thing >= 0


def _within_tree(form):
    word = form[0]
    if word == "none":
        return () if len(form) == 1 else None
    if word == "for":
        return [("tree", form[2])] if len(form) == 3 and is_name(form[1]) else None
    if word == "parts":
        return [("tree", part) for part in form[1:]] if len(form) >= 3 else None
    if word != "leaf" or len(form) != 3 or not begins_with(form[1], "tests"):
        return None
    return [("cell", test) for test in form[1][1:]] + [("thing", form[2])]


def _within_record(form):
    labels = form[1::2]
    if len(form) - 1 != 2 * len(form[2::2]) or not all([is_name(label) for label in labels]):
        return None
    return [("thing", part) for part in form[2::2]] if is_ascending(labels) else None


def _made(due, parts):
    """Return what has the form, the things that have the forms within it being given."""
    _, form = due
    if is_integer(form):
        return ("number", form)
    word = form[0]
    if word == "truth":
        return TRUE if form == _TRUE_FORM else FALSE
    if word == "text" or word == "column" or word == "none":
        return form
    if word == "leaf":
        return ("leaf", tuple(parts[:-1]), parts[-1])
    if word == "parts":
        return ("parts", tuple(parts))
    if word == "for":
        return ("for", form[1], parts[0])
    if word == "record":
        return ("record", tuple(zip(form[1::2], parts)))
    return (word, *parts)
