"""Terms: their parts and paths, the check of what is passed in, and putting one into another."""

from listasks.errors import BadKind, BadTerm, NoPath
from listasks.kinds import (
    MOST_FIELDS,
    check_kind,
    fits_base,
    has_open,
    is_ascending,
    is_couple,
    is_integer,
    is_name,
    is_sequence,
)
from listasks.walks import fold

MOST_STEPS = 20
MOST_NODES = 150

# What stands behind each word, item by item.
ROLES = {
    "number": ("int",),
    "text": ("text",),
    "truth": ("truth",),
    "name": ("name",),
    "none": (),
    "table": ("name",),
    "fn": ("name", "term"),
    "field": ("term", "name"),
    "as": ("term", "kind"),
    "one": ("term",),
    "not": ("term",),
    "empty": ("term",),
    "count": ("term",),
    "total": ("term",),
    "let": ("name", "term", "term"),
    "for": ("name", "term", "term"),
    "use": ("term", "term"),
    "join": ("term", "term"),
    "where": ("term", "term"),
    "plus": ("term", "term"),
    "minus": ("term", "term"),
    "times": ("term", "term"),
    "equal": ("term", "term"),
    "less": ("term", "term"),
    "and": ("term", "term"),
    "or": ("term", "term"),
    "if": ("term", "term", "term"),
    "record": ("couples",),
}
_WRITTEN = ("number", "text", "truth")
_LEAVES = ("number", "text", "truth", "name", "none", "table")
_BINDERS = ("fn", "let", "for")


def children(term):
    word = term[0]
    if word == "record":
        return tuple([part for _, part in term[1]])
    if word in _LEAVES:
        return ()
    if word in _BINDERS:
        return tuple(term[2:])
    if word == "field" or word == "as":
        return (term[1],)
    return tuple(term[1:])


def with_children(term, parts):
    word = term[0]
    if word == "record":
        labels = [label for label, _ in term[1]]
        return ("record", tuple(zip(labels, parts)))
    if word in _LEAVES:
        return term
    if word in _BINDERS:
        return (word, term[1], *parts)
    if word == "field" or word == "as":
        return (word, *parts, term[2])
    return (word, *parts)


def bound_name(term, at):
    word = term[0]
    if (word == "fn" and at == 0) or (word in ("let", "for") and at == 1):
        return term[1]
    return None


def _steps_down(term, path):
    """List the terms on the way along the path, from the whole term to that at its end."""
    way = [term]
    for at in path:
        parts = children(way[-1])
        if not is_integer(at) or not 0 <= at < len(parts):
            raise NoPath(tuple(path))
        way.append(parts[at])
    return way


def at_path(term, path):
    return _steps_down(term, path)[-1]


def put_at(term, path, part):
    way = _steps_down(term, path)
    whole = part
    for k in reversed(range(len(path))):
        parts = list(children(way[k]))
        parts[path[k]] = whole
        whole = with_children(way[k], parts)
    return whole


def names_over(term, path):
    way = _steps_down(term, path)
    names = [bound_name(way[k], path[k]) for k in range(len(path))]
    return tuple([name for name in names if name is not None])


def nodes_of(term):
    return fold(term, children, lambda node, counts: 1 + sum(counts))


def depth_of(term):
    return fold(term, children, lambda node, depths: 1 + max(depths, default=0))


def check_term(term):
    fault = _first_fault(term)
    if fault is not None:
        path, what = fault
        raise BadTerm(path, what)
    return fold(term, children, _in_tuples)


def _in_tuples(node, parts):
    if node[0] == "as":
        return ("as", parts[0], check_kind(node[2]))
    return with_children(tuple(node), parts)


def _first_fault(term):
    """Return the first fault (path, what) of a thing that may be anything, or None."""
    todo = [((), term)]
    good = 0
    while todo:
        path, node = todo.pop()
        if good == MOST_NODES:
            return ((), "size")
        what = _node_fault(path, node)
        if what is not None:
            return (path, what)
        good += 1
        parts = children(node)
        for at in reversed(range(len(parts))):
            todo.append((path + (at,), parts[at]))
    return None


def _node_fault(path, node):
    """Return the first word that applies to one node, or None; its children are not looked at."""
    if len(path) >= MOST_STEPS:
        return "depth"
    if not _has_shape(node):
        return "shape"
    if not all([is_name(name) for name in _names_in(node)]):
        return "name"
    if node[0] == "record" and not _labels_fit([label for label, _ in node[1]]):
        return "labels"
    if node[0] in _WRITTEN and not fits_base(node[1], ROLES[node[0]][0]):
        return "value"
    if node[0] == "as" and not _is_closed_kind(node[2]):
        return "kind"
    return None


def _has_shape(node):
    if not is_sequence(node) or len(node) == 0:
        return False
    word = node[0]
    if not isinstance(word, str) or word not in ROLES or len(node) != len(ROLES[word]) + 1:
        return False
    if word == "record":
        return is_sequence(node[1]) and all([is_couple(couple) for couple in node[1]])
    return True


def _names_in(node):
    """List what stands in the node itself where a variable, a table or a label is due."""
    if node[0] == "record":
        return [label for label, _ in node[1]]
    return [item for item, role in zip(node[1:], ROLES[node[0]]) if role == "name"]


def _labels_fit(labels):
    return len(labels) <= MOST_FIELDS and is_ascending(labels)


def _is_closed_kind(thing):
    try:
        kind = check_kind(thing)
    except BadKind:
        return False
    return not has_open(kind)


def scoped_nodes(term):
    """List (path, node, names bound there, outermost first) for all nodes in preorder."""
    found = []
    todo = [((), term, ())]
    while todo:
        path, node, names = todo.pop()
        found.append((path, node, names))
        parts = children(node)
        for at in reversed(range(len(parts))):
            name = bound_name(node, at)
            inner = names if name is None else names + (name,)
            todo.append((path + (at,), parts[at], inner))
    return found


def free_names(term):
    free = set()
    for _, node, names in scoped_nodes(term):
        if node[0] == "name" and node[1] not in names:
            free.add(node[1])
    return tuple(sorted(free))


def fresh_name(taken):
    number = 1
    while f"v{number}" in taken:
        number += 1
    return f"v{number}"


def substituted(term, name, part):
    return _put_for(term, name, part, free_names(part))


def _put_for(term, name, part, caught):
    """Put the part, whose free names are `caught`, in the place of each free use of the name."""
    if term[0] == "name":
        return part if term[1] == name else term
    binder = term
    parts = []
    for at, inner in enumerate(children(term)):
        bound = bound_name(term, at)
        if bound == name:
            parts.append(inner)
            continue
        body = inner
        if bound in caught and name in free_names(inner):
            fresh = fresh_name(caught + free_names(inner) + (name,))
            body = _put_for(inner, bound, ("name", fresh), (fresh,))
            binder = (term[0], fresh) + term[2:]
        parts.append(_put_for(body, name, part, caught))
    return with_children(binder, parts)


def renamed(term, old, new):
    return substituted(term, old, ("name", new))


def same_term(one, other):
    todo = [(one, other, (), ())]
    while todo:
        left, right, names, others = todo.pop()
        if not _same_node(left, right, names, others):
            return False
        pairs = list(zip(children(left), children(right)))
        for at, (part, mate) in enumerate(pairs):
            name = bound_name(left, at)
            if name is None:
                todo.append((part, mate, names, others))
            else:
                todo.append((part, mate, names + (name,), others + (bound_name(right, at),)))
    return True


def _same_node(left, right, names, others):
    """Tell whether two nodes are the same but for what their children say."""
    if left[0] != right[0]:
        return False
    if left[0] == "name":
        level = _level(left[1], names)
        return level == _level(right[1], others) and (level >= 0 or left[1] == right[1])
    if left[0] == "record":
        return [label for label, _ in left[1]] == [label for label, _ in right[1]]
    if left[0] == "field" or left[0] == "as":
        return left[2] == right[2]
    return left[0] not in _LEAVES or left[1:] == right[1:]


def _level(name, names):
    """Return at which of the names, outermost first, the name is bound, or -1 if at none."""
    for k in reversed(range(len(names))):
        if names[k] == name:
            return k
    return -1
