"""Reading: what a term is in a world in which rows of tables are spoken of and no store is there."""

from listasks.cells import and_of, if_of, not_of, or_of
from listasks.lifting import lifted_with
from listasks.stores import columns_of
from listasks.terms import children
from listasks.trees import NONE, for_of, grafted, leaf_of, parts_of, placed_things, when, without_things
from listasks.walks import fold

_WRITTEN = ("number", "text", "truth")
# Of these terms the first child is read, and how the second one is depends on its thing.
_FIRST_ALONE = ("let", "for")


class Scope:
    """Where a term is read: under which heads and names, and at which depth.

    The names are entries (name, thing, depth, moves): the thing stands at the depth once it is
    moved. The moves (start, by) wait until the name is read, for most names never are.
    """

    def __init__(self, heads, names, depth):
        self.heads = heads
        self.names = names
        self.depth = depth

    def with_name(self, name, thing, depth):
        return Scope(self.heads, ((name, thing, depth, ()),) + self.names, depth)

    def moved(self, moves):
        return Scope(self.heads, tuple([_shifted(entry, moves) for entry in self.names]), self.depth)

    def thing_of(self, name):
        for entry in self.names:
            if entry[0] == name:
                return _thing_at(entry, self.depth)
        return None


def _shifted(entry, moves):
    """Return an entry as if its thing had been read with the rows moved so.

    What stands at a depth speaks of no row from there on, so a move that starts there or further
    on changes nothing.
    """
    name, thing, depth, waiting = entry
    for start, by in moves:
        if depth > start:
            depth = depth + by
            waiting = waiting + ((start, by),)
    return (name, thing, depth, waiting)


def _thing_at(entry, depth):
    """Return an entry's thing, moved to a depth that is not less than its own."""
    _, thing, stood, waiting = entry
    for start, by in waiting:
        thing = moved_thing(thing, start, by)
    return moved_thing(thing, stood, depth - stood) if depth > stood else thing


class ReadFunction:
    """The thing of a fn: its name, its body and where it was read; its moves wait until it is used."""

    def __init__(self, name, body, scope, moves):
        self.name = name
        self.body = body
        self.scope = scope
        self.moves = moves

    def moved(self, depth, by):
        return ReadFunction(self.name, self.body, self.scope, self.moves + ((depth, by),))

    def use_deeds(self, thing, depth):
        """List what is to be done, in order, to find the thing of a use."""
        return [("read", self.body, self.scope.moved(self.moves).with_name(self.name, thing, depth))]


class EitherFunction:
    """Two functions' things under a test that is an entry of its own; its moves wait until it is used."""

    def __init__(self, test, one, other, moves):
        self.test = test
        self.one = one
        self.other = other
        self.moves = moves

    def moved(self, depth, by):
        return EitherFunction(self.test, self.one, self.other, self.moves + ((depth, by),))

    def use_deeds(self, thing, depth):
        """List what is to be done, in order, to find the thing of a use."""
        one, other = self.one, self.other
        for start, by in self.moves:
            one, other = one.moved(start, by), other.moved(start, by)
        test = _thing_at(_shifted(self.test, self.moves), depth)
        return [("use", (one, thing), depth), ("use", (other, thing), depth), ("either", test, depth)]


def moved_thing(thing, depth, by):
    return lifted_with(thing, depth, by, lambda function: function.moved(depth, by))


def if_thing(test, one, other, depth):
    return fold(
        (one, other),
        _pairs_within,
        lambda pair, parts: _joined_thing(test, pair[0], pair[1], parts, depth),
    )


def _pairs_within(pair):
    one, other = pair
    if not isinstance(one, tuple) or one[0] != "record":
        return ()
    parts = [part for _, part in one[1]]
    return list(zip(parts, [part for _, part in other[1]]))


def _joined_thing(test, one, other, parts, depth):
    if not isinstance(one, tuple):
        return EitherFunction(("", test, depth, ()), one, other, ())
    if one[0] == "record":
        return ("record", tuple([(label, part) for (label, _), part in zip(one[1], parts)]))
    if one[0] != "list":
        return if_of(test, one, other)
    trees = (when(test, one[1], depth), when(not_of(test), other[1], depth))
    return ("list", parts_of(trees))


# Each of the functions below takes a term, the things of its children and the depth, and returns its thing.


def _thing_of_record(term, things, depth):
    return ("record", tuple([(label, thing) for (label, _), thing in zip(term[1], things)]))


def _thing_of_field(term, things, depth):
    return dict(things[0][1])[term[2]]


def _thing_of_as(term, things, depth):
    return things[0]


def _thing_of_one(term, things, depth):
    return ("list", leaf_of((), things[0]))


def _thing_of_join(term, things, depth):
    return ("list", parts_of([tree for _, tree in things]))


def _thing_of_where(term, things, depth):
    return ("list", when(things[0], things[1][1], depth))


def _thing_of_if(term, things, depth):
    return if_thing(things[0], things[1], things[2], depth)


def _thing_of_and(term, things, depth):
    return and_of(things[0], things[1])


def _thing_of_or(term, things, depth):
    return or_of(things[0], things[1])


def _thing_of_not(term, things, depth):
    return not_of(things[0])


def _thing_of_both(term, things, depth):
    return (term[0], things[0], things[1])


def _thing_of_length(term, things, depth):
    return (term[0], without_things(things[0][1]))


def _thing_of_total(term, things, depth):
    return ("total", things[0][1])


_THINGS = {
    "record": _thing_of_record,
    "field": _thing_of_field,
    "as": _thing_of_as,
    "one": _thing_of_one,
    "join": _thing_of_join,
    "where": _thing_of_where,
    "if": _thing_of_if,
    "and": _thing_of_and,
    "or": _thing_of_or,
    "not": _thing_of_not,
    "plus": _thing_of_both,
    "minus": _thing_of_both,
    "times": _thing_of_both,
    "equal": _thing_of_both,
    "less": _thing_of_both,
    "empty": _thing_of_length,
    "count": _thing_of_length,
    "total": _thing_of_total,
}


class Reading:
    """One reading: deeds still to do, and things found.

    Uses of functions lie deep within each other, so the deeds are kept in a stack. A deed has three
    items: "read" and a term and its scope; "finish", the same, when its first child or all its
    children have things; "graft", a tree and its depth, when what takes the place of each of its
    leaves is read; "use", a function with what it is given, and the depth; "either", a test and its
    depth, when both functions under it have been used.
    """

    def __init__(self, deed):
        self.todo = [deed]
        self.done = []

    def run(self):
        while self.todo:
            deed, subject, where = self.todo.pop()
            if deed == "read":
                self._read(subject, where)
            elif deed == "finish":
                self._finish(subject, where)
            elif deed == "graft":
                things = self._taken(len(placed_things(subject, where)))
                self.done.append(("list", grafted(subject, where, [tree for _, tree in things])))
            elif deed == "use":
                function, thing = subject
                self._plan(function.use_deeds(thing, where))
            else:
                one, other = self._taken(2)
                self.done.append(if_thing(subject, one, other, where))
        return self.done.pop()

    def _plan(self, deeds):
        self.todo.extend(deeds[::-1])

    def _taken(self, count):
        """Take the last things from those found, as many as asked for."""
        start = len(self.done) - count
        things = self.done[start:]
        del self.done[start:]
        return things

    def _read(self, term, scope):
        word = term[0]
        if word in _WRITTEN:
            self.done.append(term)
        elif word == "name":
            self.done.append(scope.thing_of(term[1]))
        elif word == "none":
            self.done.append(("list", NONE))
        elif word == "table":
            self.done.append(("list", _table_tree(term[1], scope)))
        elif word == "fn":
            self.done.append(ReadFunction(term[1], term[2], scope, ()))
        else:
            parts = children(term)
            now = parts[:1] if word in _FIRST_ALONE else parts
            self._plan([("read", part, scope) for part in now] + [("finish", term, scope)])

    def _finish(self, term, scope):
        word = term[0]
        if word == "let":
            self._plan([("read", term[3], scope.with_name(term[1], self.done.pop(), scope.depth))])
        elif word == "for":
            _, tree = self.done.pop()
            inner = [scope.with_name(term[1], thing, at) for thing, at in placed_things(tree, scope.depth)]
            self._plan([("read", term[3], place) for place in inner] + [("graft", tree, scope.depth)])
        elif word == "use":
            self._plan([("use", self._taken(2), scope.depth)])
        else:
            things = self._taken(len(children(term)))
            thing_of_word = _THINGS[word]
            self.done.append(thing_of_word(term, things, scope.depth))


def _table_tree(table, scope):
    columns = [column for column, _ in columns_of(scope.heads, table)]
    record = ("record", tuple([(column, ("column", scope.depth, column)) for column in columns]))
    return for_of(table, leaf_of((), record))


def read_term(heads, term, names, depth):
    # a function's thing keeps them, and no list that was passed may be kept
    kept = tuple([(table, columns_of(heads, table)) for table, _ in heads])
    entries = tuple([(name, thing, at, ()) for name, thing, at in names])
    return Reading(("read", term, Scope(kept, entries, depth))).run()


def use_function(function, thing, depth):
    return Reading(("use", (function, thing), depth)).run()


def read(program):
    names = ()
    for name, term in program.definitions:
        names = ((name, read_term(program.heads, term, names, 0), 0),) + names
    _, tree = read_term(program.heads, program.asking, names, 0)
    return tree
