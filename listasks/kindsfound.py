"""The kinds of a term and of all terms within it, and putting kinds into open places."""

from listasks.errors import BadChoices, Misfit, Unclear, Unknown
from listasks.kinds import kind_head, kind_parts, same_kind, with_opens
from listasks.kindweb import KindWeb
from listasks.stores import row_kind
from listasks.terms import bound_name, children, scoped_nodes

# The base kinds of the parts, then that of the node.
_PLAIN = {
    "number": ((), "int"),
    "text": ((), "text"),
    "truth": ((), "truth"),
    "plus": (("int", "int"), "int"),
    "minus": (("int", "int"), "int"),
    "times": (("int", "int"), "int"),
    "less": (("int", "int"), "truth"),
    "and": (("truth", "truth"), "truth"),
    "or": (("truth", "truth"), "truth"),
    "not": (("truth",), "truth"),
}


# Each of the functions below takes a web, a term and the numbers of its parts' kinds, and returns the
# number of the term's kind, or None if its constraints cannot hold.


def _plain_kind(web, term, parts):
    words, made = _PLAIN[term[0]]
    for part, word in zip(parts, words):
        if not web.unite(part, web.base(word)):
            return None
    return web.base(made)


def _none_kind(web, term, parts):
    return web.list_of(web.new_open())


def _one_kind(web, term, parts):
    return web.list_of(parts[0])


def _record_kind(web, term, parts):
    return web.record_of([label for label, _ in term[1]], parts)


def _field_kind(web, term, parts):
    return web.field_of(parts[0], term[2])


def _use_kind(web, term, parts):
    made = web.new_open()
    return made if web.unite(parts[0], web.function_of(parts[1], made)) else None


def _join_kind(web, term, parts):
    is_list = web.unite(parts[0], web.list_of(web.new_open()))
    return parts[0] if is_list and web.unite(parts[0], parts[1]) else None


def _let_kind(web, term, parts):
    return parts[1]


def _for_kind(web, term, parts):
    return parts[1] if web.unite(parts[1], web.list_of(web.new_open())) else None


def _where_kind(web, term, parts):
    is_test = web.unite(parts[0], web.base("truth"))
    return _for_kind(web, term, parts) if is_test else None


def _if_kind(web, term, parts):
    is_test = web.unite(parts[0], web.base("truth"))
    return parts[1] if is_test and web.unite(parts[1], parts[2]) else None


def _equal_kind(web, term, parts):
    is_good = web.unite(parts[0], parts[1]) and web.needs_base(parts[0])
    return web.base("truth") if is_good else None


def _empty_kind(web, term, parts):
    return web.base("truth") if web.unite(parts[0], web.list_of(web.new_open())) else None


def _count_kind(web, term, parts):
    return web.base("int") if web.unite(parts[0], web.list_of(web.new_open())) else None


def _total_kind(web, term, parts):
    return web.base("int") if web.unite(parts[0], web.list_of(web.base("int"))) else None


def _as_kind(web, term, parts):
    return parts[0] if web.unite(parts[0], web.copy_of(term[2])) else None


_KINDS = {
    "none": _none_kind,
    "one": _one_kind,
    "record": _record_kind,
    "field": _field_kind,
    "use": _use_kind,
    "join": _join_kind,
    "let": _let_kind,
    "for": _for_kind,
    "where": _where_kind,
    "if": _if_kind,
    "equal": _equal_kind,
    "empty": _empty_kind,
    "count": _count_kind,
    "total": _total_kind,
    "as": _as_kind,
}


class KindFinder:
    """The kinds of a term's nodes, in preorder, while its constraints are made."""

    def __init__(self, heads, known):
        self.heads = heads
        self.known = dict(known)
        self.at = len(known)
        self.web = KindWeb()
        self.paths = []
        self.numbers = []
        self.waits = []

    def visit(self, term, path, names):
        """Make the constraints of a term under names with kinds; return the number of its kind."""
        place = len(self.paths)
        self.paths.append(path)
        self.numbers.append(None)
        parts = []
        inner = names
        for at, part in enumerate(children(term)):
            inner = self._names_in(term, at, path, parts, names)
            parts.append(self.visit(part, path + (at,), inner))
        number = self._own_kind(term, parts, inner)
        if number is None:
            raise Misfit(self.at, path)
        self.numbers[place] = number
        if term[0] in ("field", "equal"):
            self.waits.append((place, parts[0]))
        return number

    def _names_in(self, term, at, path, parts, names):
        """Return the names with kinds under which a child is read, the parts ahead of it being done."""
        name = bound_name(term, at)
        if name is None:
            return names
        if term[0] == "let":
            number = parts[0]
        else:
            number = self.web.new_open()
        if term[0] == "for" and not self.web.unite(parts[0], self.web.list_of(number)):
            raise Misfit(self.at, path)
        return {**names, name: number}

    def _own_kind(self, term, parts, names):
        """Make a node's own constraints; `names` are those under which its last child was read."""
        word = term[0]
        if word == "name":
            return names[term[1]] if term[1] in names else self.web.copy_of(self.known[term[1]])
        if word == "table":
            return self.web.list_of(self.web.copy_of(row_kind(self.heads, term[1])))
        if word == "fn":
            return self.web.function_of(names[term[1]], parts[0])
        if word in _PLAIN:
            return _plain_kind(self.web, term, parts)
        kind_of_word = _KINDS[word]
        return kind_of_word(self.web, term, parts)

    def ask_clear(self):
        """Raise Unclear if a field or an equal still waits."""
        places = [place for place, number in self.waits if self.web.is_open(number)]
        if places:
            raise Unclear(self.at, self.paths[min(places)])

    def couples(self, is_closed):
        kinds = self.web.kinds_of(self.numbers, is_closed)
        return tuple(zip(self.paths, kinds))


def _ask_known(heads, known, term):
    """Raise Unknown for the first name or table without a meaning."""
    names = [name for name, _ in known]
    tables = [table for table, _ in heads]
    for path, node, bound in scoped_nodes(term):
        if node[0] == "name" and node[1] not in bound and node[1] not in names:
            raise Unknown(len(known), path, node[1])
        if node[0] == "table" and node[1] not in tables:
            raise Unknown(len(known), path, node[1])


def _found(heads, known, term):
    _ask_known(heads, known, term)
    finder = KindFinder(heads, known)
    finder.visit(term, (), {})
    return finder


def kinds_within(heads, known, term):
    finder = _found(heads, known, term)
    finder.ask_clear()
    return finder.couples(False)


def closed_kinds(heads, known, term):
    return _found(heads, known, term).couples(True)


def found_kind(heads, known, term):
    return kinds_within(heads, known, term)[0][1]


def put_in(kind, choices):
    return with_opens(kind, lambda number: _choice(choices, number))


def _choice(choices, number):
    if number >= len(choices):
        raise BadChoices(number)
    return choices[number]


def numbered_anew(kind):
    numbers = {}
    return with_opens(kind, lambda number: ("any", numbers.setdefault(number, len(numbers))))


def is_case_of(kind, general):
    chosen = {}
    todo = [(kind, general)]
    while todo:
        part, mould = todo.pop()
        if mould[0] == "any":
            if not same_kind(chosen.setdefault(mould[1], part), part):
                return None
        elif kind_head(part) != kind_head(mould):
            return None
        else:
            todo.extend(list(zip(kind_parts(part), kind_parts(mould))))
    return tuple([chosen[number] for number in sorted(chosen)])
