"""Cutting a tree into flat questions, one for each list of a kind."""

from listasks.cells import merged_tests
from listasks.errors import NoFit
from listasks.kinds import flat_paths, is_base, kind_at, list_places, place_around
from listasks.lifting import lifted_cell
from listasks.members import FlatQuestion, Member
from listasks.trees import leaves_of


def tree_fits(tree, kind):
    todo = [(("list", tree), kind)]
    while todo:
        thing, due = todo.pop()
        inner = _due_within(thing, due)
        if inner is None:
            return False
        todo.extend(inner)
    return True


def _due_within(thing, kind):
    """Return the (thing, kind) that must fit for the whole to fit, or None if it cannot."""
    if is_base(kind):
        return None if thing[0] in ("record", "list") else ()
    if thing[0] != kind[0]:
        return None
    if kind[0] == "list":
        return [(inner, kind[1]) for _, _, _, inner in leaves_of(thing[1])]
    if [label for label, _ in thing[1]] != [label for label, _ in kind[1]]:
        return None
    return [(part, due) for (_, part), (_, due) in zip(thing[1], kind[1])]


def shred(tree, kind):
    if not tree_fits(tree, kind):
        raise NoFit()
    leaves = {}
    questions = []
    for place in list_places(kind):
        around = place_around(place)
        if around is None:
            # the tree itself, as if it stood in the thing of a member without anything
            outer_leaves, labels = [(Member((), (), (), (), ()), ("list", tree))], ()
        else:
            outer_leaves, labels = leaves[around], place[len(around) + 1:]
        leaves[place] = _leaves_at(outer_leaves, labels, flat_paths(kind_at(kind, place + ("*",))))
        questions.append(FlatQuestion(place, tuple([member for member, _ in leaves[place]])))
    return tuple(questions)


def _leaves_at(outer_leaves, labels, paths):
    """List (member, thing) of the leaves in the lists to which the labels lead.

    The lists stand in the things of the outer leaves, which are given in the same way; the paths
    lead from a thing to its cells.
    """
    found = []
    for around, thing in outer_leaves:
        _, tree = _at_labels(thing, labels)
        depth = len(around.tables)
        for items, tables, tests, inner in leaves_of(tree, depth):
            moved = moved_tests(around.tests, depth, depth + len(tables))
            cells = tuple([_at_labels(inner, path) for path in paths])
            row = merged_tests(moved, tests)
            member = Member(around.tables + tables, row, around.whole, items, cells)
            found.append((member, inner))
    return found


def _at_labels(thing, labels):
    for label in labels:
        thing = dict(thing[1])[label]
    return thing


def moved_tests(tests, depth, onto):
    """Return tests that stand at a depth as they stand at another one that is not less."""
    return tuple([lifted_cell(test, depth, onto - depth) for test in tests])
