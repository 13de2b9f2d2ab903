"""Programs: heads, definitions and an asking that were let by."""

from listasks.errors import BadProgram, NoAnswer
from listasks.kinds import DIGITS, is_answer_kind, is_couple, is_name, is_sequence
from listasks.kindsfound import closed_kinds, found_kind
from listasks.stores import check_heads
from listasks.terms import bound_name, check_term, children, scoped_nodes, with_children
from listasks.walks import fold

MOST_DEFINITIONS = 8


def _is_own_name(name):
    """Tell whether the name is of the kind v1, v2, .. that renaming takes."""
    return len(name) > 1 and name[0] == "v" and all([sign in DIGITS for sign in name[1:]])


def _check_definitions(definitions):
    """Raise BadProgram for what can be seen without looking at the terms."""
    if not is_sequence(definitions) or len(definitions) > MOST_DEFINITIONS:
        raise BadProgram("many")
    if not all([is_couple(couple) for couple in definitions]):
        raise BadProgram("many")
    names = []
    for name, _ in definitions:
        if not is_name(name) or _is_own_name(name):
            raise BadProgram("name")
        if name in names:
            raise BadProgram("double")
        names.append(name)


def binds_one_of(term, names):
    """Tell whether the term binds one of the names anywhere."""
    for _, node, _ in scoped_nodes(term):
        bound = [bound_name(node, at) for at in range(len(children(node)))]
        if any([name in names for name in bound if name is not None]):
            return True
    return False


def _definitions_kinds(heads, definitions):
    """Return the most general kinds of the definitions, each found with the earlier ones known."""
    known = []
    for name, term in definitions:
        known.append((name, found_kind(heads, tuple(known), term)))
    return tuple([kind for _, kind in known])


class Program:
    """Heads, definitions and an asking, with the kinds found."""

    def __init__(self, heads, definitions, asking):
        self.heads = check_heads(heads)
        _check_definitions(definitions)
        self.definitions = tuple([(name, check_term(term)) for name, term in definitions])
        self.asking = check_term(asking)
        names = [name for name, _ in self.definitions]
        terms = [term for _, term in self.definitions] + [self.asking]
        if any([binds_one_of(term, names) for term in terms]):
            raise BadProgram("bound")
        self.kinds = _definitions_kinds(self.heads, self.definitions)
        known = known_kinds(self)
        self.kind = closed_kinds(self.heads, known, self.asking)[0][1]
        if not is_answer_kind(self.kind):
            raise NoAnswer()

    def __eq__(self, other):
        return (isinstance(other, Program) and self.heads == other.heads
                and self.definitions == other.definitions and self.asking == other.asking)


def known_kinds(program):
    """Return the definitions of a program as couples (name, most general kind)."""
    return tuple([(name, kind) for (name, _), kind in zip(program.definitions, program.kinds)])


def with_asking(program, term):
    return Program(program.heads, program.definitions, term)


def without_definitions(program):
    whole = {}
    for name, term in program.definitions:
        whole[name] = _unfolded(term, whole)
    return Program(program.heads, (), _unfolded(program.asking, whole))


def _unfolded(term, whole):
    """Return the term with whole terms, which have no free names, in the place of their names."""
    return fold(term, children, lambda node, parts: _unfolded_node(node, parts, whole))


def _unfolded_node(node, parts, whole):
    if node[0] == "name" and node[1] in whole:
        return whole[node[1]]
    return with_children(node, parts)
