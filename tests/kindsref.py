"""Kinds found by another way: choices for open kinds in a dict, and a list of what still waits.

All is asked anew after each constraint, so it is slow, and meant for small terms alone.
"""

from listasks.terms import children


class NoFit(Exception):
    """The constraints do not hold together."""


class Solver:
    def __init__(self):
        self.chosen = {}
        self.waits = []
        self.count = 0

    def open(self):
        self.count += 1
        return ("var", self.count)

    def head(self, kind):
        while kind in self.chosen:
            kind = self.chosen[kind]
        return kind

    def equal(self, one, other):
        one, other = self.head(one), self.head(other)
        if one == other:
            return
        if one[0] == "var":
            self.chosen[one] = other
            self.no_loop()
        elif other[0] == "var":
            self.equal(other, one)
        elif isinstance(one, str) or isinstance(other, str) or one[0] != other[0]:
            raise NoFit()
        elif one[0] == "record":
            if [label for label, _ in one[1]] != [label for label, _ in other[1]]:
                raise NoFit()
            for (_, left), (_, right) in zip(one[1], other[1]):
                self.equal(left, right)
        else:
            for left, right in zip(one[1:], other[1:]):
                self.equal(left, right)

    def settle(self):
        """Use what waits until nothing changes."""
        changed = True
        while changed:
            changed = False
            for wait in list(self.waits):
                part = self.head(wait[1])
                if wait[0] == "base" and part[0] != "var":
                    if part not in ("int", "text", "truth"):
                        raise NoFit()
                    self.waits.remove(wait)
                    changed = True
                elif wait[0] == "field" and part[0] != "var":
                    fields = dict(part[1]) if part[0] == "record" else {}
                    if wait[2] not in fields:
                        raise NoFit()
                    self.waits.remove(wait)
                    self.equal(fields[wait[2]], wait[3])
                    changed = True
        for wait in self.waits:
            for other in self.waits:
                if self.head(wait[1]) == self.head(other[1]):
                    if wait[0] != other[0]:
                        raise NoFit()
                    if wait[0] == "field" and wait[2] == other[2]:
                        before = len(self.chosen)
                        self.equal(wait[3], other[3])
                        if len(self.chosen) != before:
                            return self.settle()
        self.no_loop()

    def no_loop(self):
        """Raise NoFit if a kind lies within itself."""
        within = {}
        for var, kind in self.chosen.items():
            within.setdefault(var, []).extend(direct(kind))
        for wait in self.waits:
            if wait[0] == "field":
                within.setdefault(self.head(wait[1]), []).extend([(wait[3], True)])
        for start in list(within):
            seen = set()
            todo = [(start, False)]
            while todo:
                var, deeper = todo.pop()
                for kind, step in within.get(var, []):
                    for inner, more in ([(kind, False)] if kind[0] == "var" else direct(kind)):
                        if inner == start and (deeper or step or more):
                            raise NoFit()
                        key = (inner, deeper or step or more)
                        if key not in seen:
                            seen.add(key)
                            todo.append(key)


def direct(kind):
    """The open kinds in a kind, as couples (open kind, whether it lies deeper)."""
    if isinstance(kind, str):
        return []
    if kind[0] == "var":
        return [(kind, False)]
    parts = [part for _, part in kind[1]] if kind[0] == "record" else kind[1:]
    return [(inner, True) for part in parts for inner, _ in direct(part)]


def copied(solver, kind, opens):
    if isinstance(kind, str):
        return kind
    if kind[0] == "any":
        return opens.setdefault(kind[1], solver.open())
    if kind[0] == "record":
        return ("record", tuple((label, copied(solver, part, opens)) for label, part in kind[1]))
    return (kind[0], *[copied(solver, part, opens) for part in kind[1:]])


class Walk:
    def __init__(self, heads, known):
        self.solver = Solver()
        self.heads = dict(heads)
        self.known = dict(known)
        self.kinds = {}

    def need(self, path, *pairs, waits=()):
        try:
            for one, other in pairs:
                self.solver.equal(one, other)
            self.solver.waits.extend(waits)
            self.solver.settle()
        except NoFit:
            raise Misfitting(path) from None

    def walk(self, term, path, names):
        word = term[0]
        new = self.solver.open
        if word == "fn":
            given = new()
            made = self.walk(term[2], path + (0,), {**names, term[1]: given})
            kind = ("function", given, made)
        elif word in ("let", "for"):
            first = self.walk(term[2], path + (0,), names)
            item = first
            if word == "for":
                item = new()
                self.need(path, (first, ("list", item)))
            kind = self.walk(term[3], path + (1,), {**names, term[1]: item})
            if word == "for":
                self.need(path, (kind, ("list", new())))
        else:
            parts = [self.walk(part, path + (at,), names) for at, part in enumerate(children(term))]
            kind = self.own(term, path, names, parts)
        self.kinds[path] = kind
        return kind

    def own(self, term, path, names, parts):
        word = term[0]
        new = self.solver.open
        if word in ("number", "text", "truth"):
            return {"number": "int"}.get(word, word)
        if word == "name":
            return names[term[1]] if term[1] in names else copied(self.solver, self.known[term[1]], {})
        if word == "table":
            return ("list", ("record", self.heads[term[1]]))
        if word == "record":
            return ("record", tuple((label, part) for (label, _), part in zip(term[1], parts)))
        if word == "none":
            return ("list", new())
        if word == "one":
            return ("list", parts[0])
        if word == "use":
            made = new()
            self.need(path, (parts[0], ("function", parts[1], made)))
            return made
        if word == "field":
            made = new()
            self.need(path, waits=[("field", parts[0], term[2], made)])
            return made
        if word == "equal":
            self.need(path, (parts[0], parts[1]), waits=[("base", parts[0])])
            return "truth"
        if word == "as":
            self.need(path, (parts[0], term[2]))
            return term[2]
        if word in ("join", "where", "if"):
            first = {"join": ("list", new()), "where": "truth", "if": "truth"}[word]
            self.need(path, (parts[0], first))
            if word == "if":
                self.need(path, (parts[1], parts[2]))
                return parts[1]
            self.need(path, (parts[1], ("list", new()) if word == "where" else parts[0]))
            return parts[1]
        ins = {"less": "int", "plus": "int", "minus": "int", "times": "int", "and": "truth", "or": "truth",
               "not": "truth", "empty": ("list", new()), "count": ("list", new()), "total": ("list", "int")}[word]
        for part in parts:
            self.need(path, (part, ins))
        return "int" if word in ("plus", "minus", "times", "count", "total") else "truth"


class Misfitting(Exception):
    def __init__(self, path):
        self.path = path


def told(heads, known, term):
    """Kinds in preorder with opens numbered, or ("Misfit", path), or ("Unclear", path)."""
    walk = Walk(heads, known)
    try:
        walk.walk(term, (), {})
    except Misfitting as fault:
        return ("Misfit", fault.path)
    for path in sorted(walk.kinds):
        node = term
        for at in path:
            node = children(node)[at]
        if node[0] in ("field", "equal") and walk.solver.head(walk.kinds[path + (0,)])[0] == "var":
            return ("Unclear", path)
    return resolved(walk, False)


def closed(heads, known, term):
    walk = Walk(heads, known)
    try:
        walk.walk(term, (), {})
    except Misfitting as fault:
        return ("Misfit", fault.path)
    return resolved(walk, True)


def resolved(walk, is_closed):
    numbers = {}

    def full(kind):
        kind = walk.solver.head(kind)
        if isinstance(kind, str):
            return kind
        if kind[0] == "var":
            if not is_closed:
                return ("any", numbers.setdefault(kind, len(numbers)))
            fields = {wait[2]: wait[3] for wait in walk.solver.waits
                      if wait[0] == "field" and walk.solver.head(wait[1]) == kind}
            if not fields:
                return "int"
            return ("record", tuple((label, full(fields[label])) for label in sorted(fields)))
        if kind[0] == "record":
            return ("record", tuple((label, full(part)) for label, part in kind[1]))
        return (kind[0], *[full(part) for part in kind[1:]])

    # tuples compare so that a path stands ahead of those that it begins: preorder
    return tuple((path, full(walk.kinds[path])) for path in sorted(walk.kinds))
