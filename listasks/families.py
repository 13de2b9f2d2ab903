"""Families: which questions are those of a tree, and the tree put together from them."""

from listasks.cells import cell_text, is_row_of_tests, merged_tests, node_parts, with_node_parts
from listasks.errors import BadFamily
from listasks.kinds import ask_count, fields_at, flat_paths, is_base, kind_at, list_places, place_around
from listasks.members import has_all_rows
from listasks.shredding import moved_tests
from listasks.trees import NONE
from listasks.walks import fold


def settled_tree(tree):
    return fold((tree, 0, (), 0), _settled_parts, _settled_made)


def _settled_parts(spot):
    """Return the spots within a tree or a thing.

    A spot is (tree or thing, its depth, the tests of all leaves around, the depth of these).
    """
    node, depth, tests, stood = spot
    if node[0] == "for":
        return [(node[2], depth + 1, tests, stood)]
    if node[0] == "leaf":
        around = merged_tests(moved_tests(tests, stood, depth), node[1])
        return [(node[2], depth, around, depth)]
    if node[0] in ("parts", "record", "list"):
        return [(part, depth, tests, stood) for part in node_parts(node)]
    return ()


def _settled_made(spot, parts):
    node, depth, tests, stood = spot
    if node[0] == "leaf":
        return ("leaf", tests_less(node[1], moved_tests(tests, stood, depth)), parts[0])
    return with_node_parts(node, parts) if parts else node


def tests_less(tests, others):
    """Return the tests that are none of the others."""
    texts = [cell_text(test) for test in others]
    return tuple([test for test in tests if cell_text(test) not in texts])


def family_fault(kind, questions):
    places = list_places(kind)
    if len(questions) != ask_count(kind):
        return (0, -1, "many")
    for number, question in enumerate(questions):
        place = places[number]
        if question.place != place:
            return (number, -1, "place")
        around = _members_around(place, places, questions)
        cells = len(flat_paths(kind_at(kind, place + ("*",))))
        fault = _question_fault(question, around, cells)
        if fault is not None:
            member, word = fault
            return (number, member, word)
    return None


def _members_around(place, places, questions):
    """Return a dict from `whole` to (number, member) of the members around; None at place ()."""
    around = place_around(place)
    if around is None:
        return None
    found = {}
    for number, member in enumerate(questions[places.index(around)]):
        found.setdefault(member.whole, (number, member))
    return found


def _question_fault(question, around, cells):
    """Return the first fault (member number, word) of one question whose place is right, or None."""
    for number, member in enumerate(question):
        word = _member_fault(member, around, cells)
        if word is not None:
            return (number, word)
    if around is not None:
        numbers = [around[member.outer][0] for member in question]
        if numbers != sorted(numbers):
            return (-1, "order")
    for _, members in _by_outer(question):
        if not _make_tree(_own_ways(members, around)):
            return (-1, "keys")
    return None


def _member_fault(member, around, cells):
    if not has_all_rows(member):
        return "rows"
    if not is_row_of_tests(member.tests):
        return "tests"
    if _is_orphan(member, around):
        return "orphan"
    return None if len(member.cells) == cells else "cells"


def _is_orphan(member, around):
    if around is None:
        return member.outer != ()
    if member.outer not in around:
        return True
    _, outer = around[member.outer]
    if member.tables[:len(outer.tables)] != outer.tables:
        return True
    moved = moved_tests(outer.tests, len(outer.tables), len(member.tables))
    return not all([test in member.tests for test in moved])


def _by_outer(question):
    """List (outer, members with it) in the order in which each outer first stands."""
    lots = {}
    for member in question:
        lots.setdefault(member.outer, []).append(member)
    return [(outer, lots[outer]) for outer in lots]


def _own_ways(members, around):
    """List (own items, own tables) of members with one outer."""
    if around is None:
        return [(member.own, member.tables) for member in members]
    _, outer = around[members[0].outer]
    return [(member.own, member.tables[len(outer.tables):]) for member in members]


def _make_tree(ways):
    todo = [(0, len(ways), 0, 0)]
    while todo:
        inner = _branches(ways, todo.pop())
        if inner is None:
            return False
        todo.extend(inner)
    return True


def _branches(ways, branch):
    """Return the branches within one, () if it is a single leaf, None if its ways make no tree.

    A branch is (low, high, items, tables): the ways from low to high, which have so many items and
    tables in common.
    """
    low, high, at, row = branch
    mine = ways[low:high]
    left = [items[at:at + 1] for items, _ in mine]
    if () in left:
        return () if len(mine) == 1 else None
    words = [item[0] for item, in left]
    if words == ["row"] * len(mine):
        first = mine[0][1][row]
        same = all([tables[row] == first for _, tables in mine])
        return ((low, high, at + 1, row + 1),) if same else None
    if words != ["part"] * len(mine):
        return None
    return _part_branches(ways, branch, [items[at][1] for items, _ in mine])


def _part_branches(ways, branch, numbers):
    """Return one branch for each part if their numbers, way by way, are good, else None."""
    low, _, at, row = branch
    starts = [k for k in range(len(numbers)) if k == 0 or numbers[k] != numbers[k - 1]]
    if len(starts) < 2 or [numbers[k] for k in starts] != list(range(len(starts))):
        return None
    behind = [items[at + 1][0] for items, _ in ways[low:low + len(numbers)] if len(items) > at + 1]
    if "part" in behind:
        return None
    ends = starts[1:] + [len(numbers)]
    return tuple([(low + start, low + end, at + 1, row) for start, end in zip(starts, ends)])


def gathered(kind, questions):
    fault = family_fault(kind, questions)
    if fault is not None:
        place, member, what = fault
        raise BadFamily(place, member, what)
    places = list_places(kind)
    trees = {}
    for question in reversed(list(questions)):
        around = _members_around(question.place, places, questions)
        trees[question.place] = _trees_at(kind, question, around, trees)
    return trees[()].get((), NONE)


def _trees_at(kind, question, around, trees):
    """Return a dict from each outer of a question to the tree of the list there.

    The dict `trees` has these dicts for the places within.
    """
    found = {}
    for outer, members in _by_outer(question):
        ways = _own_ways(members, around)
        leaves = [_leaf_of_member(kind, question.place, member, around, trees) for member in members]
        found[outer] = _tree_of_ways(ways, leaves)
    return found


def _tree_of_ways(ways, leaves):
    return fold(
        (0, len(ways), 0, 0),
        lambda branch: _branches(ways, branch),
        lambda branch, parts: _tree_of_branch(ways, leaves, branch, parts),
    )


def _tree_of_branch(ways, leaves, branch, parts):
    low, _, at, row = branch
    items, tables = ways[low]
    if not parts:
        return leaves[low]
    if items[at][0] == "row":
        return ("for", tables[row], parts[0])
    return ("parts", tuple(parts))


def _leaf_of_member(kind, place, member, around, trees):
    tests = member.tests
    if around is not None:
        _, outer = around[member.outer]
        tests = tests_less(tests, moved_tests(outer.tests, len(outer.tables), len(member.tables)))
    rest = list(member.cells[::-1])
    thing = fold(
        (kind_at(kind, place + ("*",)), place + ("*",)),
        fields_at,
        lambda spot, parts: _thing_made(spot, parts, rest, member.whole, trees),
    )
    return ("leaf", tests, thing)


def _thing_made(spot, parts, rest, whole, trees):
    kind, steps = spot
    if is_base(kind):
        return rest.pop()
    if kind[0] == "record":
        return ("record", tuple([(label, part) for (label, _), part in zip(kind[1], parts)]))
    return ("list", trees[steps].get(whole, NONE))
