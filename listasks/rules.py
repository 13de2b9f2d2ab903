"""The rules by which one term may be put in the place of another."""

from listasks.terms import children, free_names, fresh_name, renamed, same_term, substituted, with_children
from listasks.walks import fold

RULES = (
    "use",
    "let",
    "field",
    "unfold",
    "as",
    "where",
    "truth",
    "if",
    "fieldif",
    "useif",
    "fornone",
    "forone",
    "forjoin",
    "forfor",
    "forif",
    "tonone",
    "itself",
    "joinnone",
    "joinjoin",
    "bare",
    "through",
    "ifrecord",
    "iffn",
    "forwhere",
    "wherefor",
    "wherejoin",
    "wherewhere",
    "turn",
    "twice",
    "apart",
)
# The words with which the left side of each rule begins.
_WORDS = {
    "use": ("use",),
    "let": ("let",),
    "field": ("field",),
    "unfold": ("name",),
    "as": ("as",),
    "where": ("where",),
    "truth": ("not", "and", "or"),
    "if": ("if",),
    "fieldif": ("field",),
    "useif": ("use",),
    "fornone": ("for",),
    "forone": ("for",),
    "forjoin": ("for",),
    "forfor": ("for",),
    "forif": ("for",),
    "tonone": ("for",),
    "itself": ("for",),
    "joinnone": ("join",),
    "joinjoin": ("join",),
    "bare": ("empty", "count"),
    "through": ("fn",),
    "ifrecord": ("if",),
    "iffn": ("if",),
    "forwhere": ("for",),
    "wherefor": ("where",),
    "wherejoin": ("where",),
    "wherewhere": ("where",),
    "turn": ("where",),
    "twice": ("where",),
    "apart": ("join",),
}
_NONE = ("none",)
_NOTHING = ("record", ())
# The children of a list that are tails of it, or hold them.
_TAILS = {"join": (0, 1), "if": (1, 2), "for": (1,), "let": (1,), "where": (1,)}


# Each of the functions below takes a term that begins with a word of its rule.


def _lead_use(term):
    _, used, part = term
    return substituted(used[2], used[1], part) if used[0] == "fn" else None


def _lead_let(term):
    _, x, part, body = term
    return substituted(body, x, part)


def _lead_field(term):
    _, whole, asked = term
    if whole[0] == "record":
        for label, part in whole[1]:
            if label == asked:
                return part
    return None


def _lead_as(term):
    return term[1]


def _lead_where(term):
    return ("if", term[1], term[2], _NONE)


def _lead_truth(term):
    if term[0] == "not":
        return ("truth", not term[1][1]) if term[1][0] == "truth" else None
    _, one, other = term
    # the truth that leaves the other side as it is
    plain = ("truth", term[0] == "and")
    if one[0] == "truth":
        return other if one == plain else one
    if other[0] == "truth":
        return one if other == plain else other
    return None


def _lead_if(term):
    _, test, one, other = term
    if test[0] != "truth":
        return None
    return one if test[1] else other


def _lead_fieldif(term):
    _, whole, label = term
    if whole[0] != "if":
        return None
    _, test, one, other = whole
    return ("if", test, ("field", one, label), ("field", other, label))


def _lead_useif(term):
    _, used, part = term
    if used[0] != "if":
        return None
    _, test, one, other = used
    return ("if", test, ("use", one, part), ("use", other, part))


def _lead_fornone(term):
    return _NONE if term[2] == _NONE else None


def _lead_forone(term):
    _, x, items, body = term
    return substituted(body, x, items[1]) if items[0] == "one" else None


def _lead_forjoin(term):
    _, x, items, body = term
    if items[0] != "join":
        return None
    return ("join", ("for", x, items[1], body), ("for", x, items[2], body))


def _lead_forfor(term):
    _, x, items, body = term
    if items[0] != "for":
        return None
    _, y, outer, inner = items
    if y != x and y in free_names(body):
        z = fresh_name(free_names(body) + free_names(inner) + (x, y))
        return ("for", z, outer, ("for", x, renamed(inner, y, z), body))
    return ("for", y, outer, ("for", x, inner, body))


def _lead_forif(term):
    _, x, items, body = term
    if items[0] != "if":
        return None
    _, test, one, other = items
    return ("if", test, ("for", x, one, body), ("for", x, other, body))


def _lead_tonone(term):
    return _NONE if term[3] == _NONE else None


def _lead_itself(term):
    _, x, items, body = term
    return items if body == ("one", ("name", x)) else None


def _lead_joinnone(term):
    _, one, other = term
    if one == _NONE:
        return other
    return one if other == _NONE else None


def _lead_joinjoin(term):
    _, one, other = term
    return ("join", one[1], ("join", one[2], other)) if one[0] == "join" else None


def _lead_bare(term):
    tails = _tails_of(term[1])
    if not all([tail[0] in ("one", "none", "table") for tail in tails]):
        return None
    if not any([_can_be_bared(tail) for tail in tails]):
        return None
    return (term[0], fold(term[1], _tail_parts, _bared))


def _tail_parts(term):
    """Return the children of a list in which its tails are, none for a tail."""
    parts = children(term)
    return tuple([parts[at] for at in _TAILS.get(term[0], ())])


def _tails_of(term):
    tails = []
    todo = [term]
    while todo:
        node = todo.pop()
        if node[0] in _TAILS:
            todo.extend(_tail_parts(node))
        else:
            tails.append(node)
    return tails


def _can_be_bared(tail):
    return tail[0] == "table" or (tail[0] == "one" and tail[1] != _NOTHING)


def _bared(term, parts):
    """Return a list of the same length that tells nothing, `parts` being its bared tail parts."""
    if term[0] == "one":
        return ("one", _NOTHING)
    if term[0] == "table":
        return ("for", "v1", term, ("one", _NOTHING))
    if term[0] == "none":
        return term
    inner = list(children(term))
    for at, part in zip(_TAILS[term[0]], parts):
        inner[at] = part
    return with_children(term, inner)


def _lead_through(term):
    _, x, body = term
    if body[0] != "use" or body[2] != ("name", x) or x in free_names(body[1]):
        return None
    return body[1]


def _lead_ifrecord(term):
    _, test, one, other = term
    if one[0] != "record" or other[0] != "record":
        return None
    if [label for label, _ in one[1]] != [label for label, _ in other[1]]:
        return None
    pairs = list(zip(one[1], other[1]))
    return ("record", tuple([(label, ("if", test, part, mate)) for (label, part), (_, mate) in pairs]))


def _lead_iffn(term):
    _, test, one, other = term
    if one[0] != "fn" or other[0] != "fn":
        return None
    _, x, body = one
    _, y, rest = other
    if x in free_names(test) or (x != y and x in free_names(rest)):
        z = fresh_name(free_names(test) + free_names(body) + free_names(rest))
        return ("fn", z, ("if", test, renamed(body, x, z), renamed(rest, y, z)))
    return ("fn", x, ("if", test, body, renamed(rest, y, x)))


def _lead_forwhere(term):
    _, x, items, body = term
    return ("where", items[1], ("for", x, items[2], body)) if items[0] == "where" else None


def _lead_wherefor(term):
    _, test, items = term
    if items[0] != "for":
        return None
    _, x, outer, inner = items
    if x in free_names(test):
        z = fresh_name(free_names(test) + free_names(inner) + (x,))
        return ("for", z, outer, ("where", test, renamed(inner, x, z)))
    return ("for", x, outer, ("where", test, inner))


def _lead_wherejoin(term):
    _, test, items = term
    if items[0] != "join":
        return None
    return ("join", ("where", test, items[1]), ("where", test, items[2]))


def _lead_wherewhere(term):
    _, test, items = term
    return ("where", ("and", test, items[1]), items[2]) if items[0] == "where" else None


def _lead_turn(term):
    _, test, items = term
    return ("where", ("and", test[2], test[1]), items) if test[0] == "and" else None


def _lead_twice(term):
    _, test, items = term
    return ("where", test[1], items) if test[0] == "and" and same_term(test[1], test[2]) else None


def _lead_apart(term):
    _, one, other = term
    if one[0] != "where" or other[0] != "where" or other[1][0] != "not":
        return None
    return ("if", one[1], one[2], other[2]) if same_term(one[1], other[1][1]) else None


_LEADS = {
    "use": _lead_use,
    "let": _lead_let,
    "field": _lead_field,
    "as": _lead_as,
    "where": _lead_where,
    "truth": _lead_truth,
    "if": _lead_if,
    "fieldif": _lead_fieldif,
    "useif": _lead_useif,
    "fornone": _lead_fornone,
    "forone": _lead_forone,
    "forjoin": _lead_forjoin,
    "forfor": _lead_forfor,
    "forif": _lead_forif,
    "tonone": _lead_tonone,
    "itself": _lead_itself,
    "joinnone": _lead_joinnone,
    "joinjoin": _lead_joinjoin,
    "bare": _lead_bare,
    "through": _lead_through,
    "ifrecord": _lead_ifrecord,
    "iffn": _lead_iffn,
    "forwhere": _lead_forwhere,
    "wherefor": _lead_wherefor,
    "wherejoin": _lead_wherejoin,
    "wherewhere": _lead_wherewhere,
    "turn": _lead_turn,
    "twice": _lead_twice,
    "apart": _lead_apart,
}


def _unfolded(name, definitions):
    """Return the term of the last definition of this name, or None."""
    for known, term in reversed(definitions):
        if known == name:
            return term
    return None


def apply_rule(rule, term, definitions):
    if not isinstance(rule, str) or rule not in _WORDS or term[0] not in _WORDS[rule]:
        return None
    if rule == "unfold":
        return _unfolded(term[1], definitions)
    lead = _LEADS[rule]
    return lead(term)
