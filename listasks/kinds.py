"""Names, kinds, the places of lists within kinds, and what fits a base kind."""

from listasks.errors import BadKind, NoPlace
from listasks.walks import fold

DIGITS = "0123456789"
LETTERS = "abcdefghijklmnopqrstuvwxyz"
NAME_SIGNS = "abcdefghijklmnopqrstuvwxyz0123456789"
MOST_NAME_SIGNS = 8
MOST_DIGITS = 30
MOST_TEXT_SIGNS = 12
MOST_FIELDS = 5
MOST_DEEP = 12
BASE_KINDS = ("int", "text", "truth")


def is_integer(thing):
    """Tell whether the thing is a whole number; True and False are none."""
    return isinstance(thing, int) and not isinstance(thing, bool)


def is_sequence(thing):
    return isinstance(thing, (list, tuple))


def is_couple(thing):
    return is_sequence(thing) and len(thing) == 2


def is_ascending(things):
    """Tell whether the things ascend and are unlike."""
    return all([things[k] < things[k + 1] for k in range(len(things) - 1)])


def is_name(thing):
    if not isinstance(thing, str) or not 1 <= len(thing) <= MOST_NAME_SIGNS:
        return False
    return thing[0] in LETTERS and all([sign in NAME_SIGNS for sign in thing])


def is_text_sign(sign):
    """Tell whether a text may contain this character."""
    return " " <= sign <= "~" and ord(sign) not in (34, 37, 92)


def fits_base(value, kind):
    if kind == "int":
        return is_integer(value) and abs(value) < 10 ** 30
    if kind == "text":
        if not isinstance(value, str) or len(value) > MOST_TEXT_SIGNS:
            return False
        return all([is_text_sign(sign) for sign in value])
    return kind == "truth" and isinstance(value, bool)


def is_base(kind):
    return kind in BASE_KINDS


def check_kind(kind):
    return _checked_kind(kind, MOST_DEEP)


def _checked_kind(kind, room):
    """Return the kind in tuples if it is nested at most `room` deep."""
    if room == 0:
        raise BadKind()
    if is_base(kind):
        return kind
    if not is_sequence(kind) or len(kind) < 2:
        raise BadKind()
    word, rest = kind[0], kind[1:]
    if word == "list" and len(rest) == 1:
        return ("list", _checked_kind(rest[0], room - 1))
    if word == "function" and len(rest) == 2:
        return ("function", _checked_kind(rest[0], room - 1), _checked_kind(rest[1], room - 1))
    if word == "record" and len(rest) == 1:
        return ("record", _checked_couples(rest[0], room - 1))
    if word == "any" and len(rest) == 1 and is_integer(rest[0]) and rest[0] >= 0:
        return ("any", rest[0])
    raise BadKind()


def _checked_couples(couples, room):
    if not is_sequence(couples) or len(couples) > MOST_FIELDS:
        raise BadKind()
    if not all([is_couple(couple) and is_name(couple[0]) for couple in couples]):
        raise BadKind()
    if not is_ascending([label for label, _ in couples]):
        raise BadKind()
    return tuple([(label, _checked_kind(kind, room)) for label, kind in couples])


def kind_parts(kind):
    """Return the kinds directly within the kind, from the left to the right."""
    if kind[0] == "list" or kind[0] == "function":
        return kind[1:]
    if kind[0] == "record":
        return tuple([part for _, part in kind[1]])
    return ()


def kind_head(kind):
    """Return what the kind itself says: all of it but the kinds within it."""
    if is_base(kind):
        return (kind, ())
    if kind[0] == "record":
        return ("record", tuple([label for label, _ in kind[1]]))
    if kind[0] == "any":
        return kind
    return (kind[0], ())


def kind_of_head(head, parts):
    """Return the kind, no open place, that has this head and these kinds directly within it."""
    word, labels = head
    if word in BASE_KINDS:
        return word
    if word == "record":
        return ("record", tuple(zip(labels, parts)))
    return (word, *parts)


def kinds_inside(kind):
    """List the kind and all kinds within it, in preorder."""
    found = []
    todo = [kind]
    while todo:
        part = todo.pop()
        found.append(part)
        for inner in reversed(kind_parts(part)):
            todo.append(inner)
    return found


def same_kind(one, other):
    """Tell whether two kinds are equal, however deep they are nested."""
    heads = [kind_head(part) for part in kinds_inside(one)]
    return heads == [kind_head(part) for part in kinds_inside(other)]


def with_opens(kind, change):
    """Return the kind with change(n) in the place of each ("any", n)."""
    return fold(kind, kind_parts, lambda part, inner: _with_open(part, inner, change))


def _with_open(kind, inner, change):
    if kind[0] == "any":
        return change(kind[1])
    return kind_of_head(kind_head(kind), inner)


def has_open(kind):
    return any([part[0] == "any" for part in kinds_inside(kind)])


def has_function(kind):
    return any([part[0] == "function" for part in kinds_inside(kind)])


def is_answer_kind(kind):
    return kind[0] == "list" and not has_open(kind) and not has_function(kind)


def list_places(kind):
    places = []
    todo = [((), kind)]
    while todo:
        steps, part = todo.pop()
        if part[0] == "list":
            places.append(steps)
            todo.append((steps + ("*",), part[1]))
        elif part[0] == "record":
            for label, inner in reversed(part[1]):
                todo.append((steps + (label,), inner))
    return tuple(places)


def place_around(place):
    """Return the longest other place that begins the place, or None if none does."""
    for k in reversed(range(len(place))):
        if place[k] == "*":
            return place[:k]
    return None


def ask_count(kind):
    return len(list_places(kind))


def kind_at(kind, steps):
    here = kind
    for step in steps:
        here = _kind_behind(here, step)
        if here is None:
            raise NoPlace(tuple(steps))
    return here


def _kind_behind(kind, step):
    """Return the kind to which one step leads, or None."""
    if kind[0] == "list" and step == "*":
        return kind[1]
    if kind[0] == "record":
        for label, part in kind[1]:
            if label == step:
                return part
    return None


def fields_at(spot):
    """Return the (kind, steps to it) of the fields of a record, none of another kind."""
    kind, steps = spot
    return [(part, steps + (label,)) for label, part in kind[1]] if kind[0] == "record" else ()


def flat_paths(kind):
    paths = []
    todo = [((), kind)]
    while todo:
        labels, part = todo.pop()
        if is_base(part):
            paths.append(labels)
        elif part[0] == "record":
            for label, inner in reversed(part[1]):
                todo.append((labels + (label,), inner))
    return tuple(paths)
