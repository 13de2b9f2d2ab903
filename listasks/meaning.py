"""The plain meaning of a program over a store: its asking evaluated step by step."""

from listasks.stores import columns_of
from listasks.terms import children
from listasks.values import value_parts, with_value_parts
from listasks.walks import fold

_WRITTEN = ("number", "text", "truth")
# Of these terms the first child is evaluated, and what comes then depends on its value.
_FIRST_ALONE = ("let", "for", "if", "where")


class Closure:
    """A function as a value: the name and the body of a fn, and the values of the names there."""

    def __init__(self, name, body, names):
        self.name = name
        self.body = body
        self.names = names


# Each of the functions below takes a term and the values of its children, and returns its value.


def _value_of_record(term, parts):
    return tuple([(label, part) for (label, _), part in zip(term[1], parts)])


def _value_of_field(term, parts):
    for label, part in parts[0]:
        if label == term[2]:
            return part
    return None


def _value_of_as(term, parts):
    return parts[0]


def _value_of_one(term, parts):
    return [parts[0]]


def _value_of_join(term, parts):
    return parts[0] + parts[1]


def _value_of_plus(term, parts):
    return parts[0] + parts[1]


def _value_of_minus(term, parts):
    return parts[0] - parts[1]


def _value_of_times(term, parts):
    return parts[0] * parts[1]


def _value_of_equal(term, parts):
    return parts[0] == parts[1]


def _value_of_less(term, parts):
    return parts[0] < parts[1]


def _value_of_and(term, parts):
    return parts[0] and parts[1]


def _value_of_or(term, parts):
    return parts[0] or parts[1]


def _value_of_not(term, parts):
    return not parts[0]


def _value_of_empty(term, parts):
    return len(parts[0]) == 0


def _value_of_count(term, parts):
    return len(parts[0])


def _value_of_total(term, parts):
    return sum(parts[0])


_VALUES = {
    "record": _value_of_record,
    "field": _value_of_field,
    "as": _value_of_as,
    "one": _value_of_one,
    "join": _value_of_join,
    "plus": _value_of_plus,
    "minus": _value_of_minus,
    "times": _value_of_times,
    "equal": _value_of_equal,
    "less": _value_of_less,
    "and": _value_of_and,
    "or": _value_of_or,
    "not": _value_of_not,
    "empty": _value_of_empty,
    "count": _value_of_count,
    "total": _value_of_total,
}


class Evaluation:
    """One evaluation: deeds still to do, values found, and the tables read, in order.

    Uses of functions and definitions lie deep within each other, so the deeds are kept in a stack
    of couples with the names they are done under: "start" evaluates a term, "finish" goes on when
    its first child or all its children have values, "gather" joins so many lists.
    """

    def __init__(self, program, store):
        self.definitions = dict(program.definitions)
        self.store = store
        self.todo = [("start", program.asking, {})]
        self.done = []
        self.reads = []

    def run(self):
        while self.todo:
            deed, term, names = self.todo.pop()
            if deed == "start":
                self._start(term, names)
            elif deed == "gather":
                self._gather(term)
            elif term[0] in _FIRST_ALONE:
                self._go_on(term, names)
            elif term[0] == "use":
                self._use()
            else:
                self._finish(term)
        return self.done.pop()

    def _start(self, term, names):
        word = term[0]
        if word in _WRITTEN:
            self.done.append(term[1])
        elif word == "none":
            self.done.append([])
        elif word == "fn":
            self.done.append(Closure(term[1], term[2], names))
        elif word == "table":
            self.done.append(self._read(term[1]))
        elif word == "name":
            self._name(term[1], names)
        else:
            parts = children(term)
            now = parts[:1] if word in _FIRST_ALONE else parts
            self.todo.append(("finish", term, names))
            for part in reversed(now):
                self.todo.append(("start", part, names))

    def _name(self, name, names):
        if name in names:
            self.done.append(names[name])
        else:
            self.todo.append(("start", self.definitions[name], {}))

    def _read(self, table):
        self.reads.append(table)
        columns = [column for column, _ in columns_of(self.store.heads, table)]
        return [tuple(zip(columns, cells)) for _, cells in self.store.rows_of(table)]

    def _go_on(self, term, names):
        """Go on with a term of which the first child has a value."""
        word = term[0]
        value = self.done.pop()
        if word == "let":
            self.todo.append(("start", term[3], {**names, term[1]: value}))
        elif word == "if":
            self.todo.append(("start", term[2] if value else term[3], names))
        elif word == "for":
            self.todo.append(("gather", len(value), names))
            for item in reversed(value):
                self.todo.append(("start", term[3], {**names, term[1]: item}))
        elif value:
            self.todo.append(("start", term[2], names))
        else:
            self.done.append([])

    def _use(self):
        given = self.done.pop()
        used = self.done.pop()
        self.todo.append(("start", used.body, {**used.names, used.name: given}))

    def _taken(self, count):
        """Take the last values from those found, as many as asked for."""
        start = len(self.done) - count
        values = self.done[start:]
        del self.done[start:]
        return values

    def _gather(self, count):
        lists = self._taken(count)
        self.done.append([item for items in lists for item in items])

    def _finish(self, term):
        parts = self._taken(len(children(term)))
        value_of_word = _VALUES[term[0]]
        self.done.append(value_of_word(term, parts))


def meaning(program, store):
    # one list may have come to stand at several places, hence a copy of each
    return fold(Evaluation(program, store).run(), value_parts, with_value_parts)


def trail(program, store):
    evaluation = Evaluation(program, store)
    evaluation.run()
    return tuple(evaluation.reads)


def askings(program, store):
    return len(trail(program, store))
