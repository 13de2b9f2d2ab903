"""Plans of a member: the plain one, all good ones, one made by the tables' sizes, and ways between them."""

from listasks.errors import BadChange, TooWide
from listasks.judge import judge_plan, matches_of, speaks_within
from listasks.kinds import is_couple, is_integer

MOST_WIDE_ROWS = 4
MOST_WIDE_TESTS = 3
# How many steps a change has to do with.
_WIDTHS = {"swap": 2, "split": 1, "join": 2}


def plain_plan(member):
    takes = [("take", row) for row in range(len(member.tables))]
    keeps = [("keep", number) for number in range(len(member.tests))]
    return tuple(takes + keeps)


def all_plans(member):
    if len(member.tables) > MOST_WIDE_ROWS:
        raise TooWide("rows")
    if len(member.tests) > MOST_WIDE_TESTS:
        raise TooWide("tests")
    todo = [()]
    while todo:
        plan = todo.pop()
        steps = _next_steps(member, plan)
        # a plan that is not whole can always go on: by a take, or by a keep once all rows are taken
        if not steps:
            yield plan
        for step in reversed(steps):
            todo.append(plan + (step,))


def _next_steps(member, plan):
    """List the good steps behind good ones, takes ahead of matches and these ahead of keeps."""
    taken = [step[1] for step in plan if step[0] != "keep"]
    used = [step[-1] for step in plan if step[0] != "take"]
    rows = [row for row in range(len(member.tables)) if row not in taken]
    tests = [number for number in range(len(member.tests)) if number not in used]
    takes = [("take", row) for row in rows]
    matches = [("match", row, number) for row in rows for number in matches_of(member, row, taken)]
    ready = _spoken_within(member, tests, taken)
    return takes + matches + [("keep", number) for number in ready]


def _spoken_within(member, numbers, taken):
    """List those of the numbers of tests whose tests speak of taken rows alone."""
    depth = len(member.tables)
    return [number for number in numbers if speaks_within(member.tests[number], depth, taken)]


def plan_for(member, sizes):
    left = list(range(len(member.tests)))
    ranked = sorted([(sizes[table], row) for row, table in enumerate(member.tables)])
    taken = []
    steps = []
    for _, row in ranked:
        kept = _spoken_within(member, left, taken)
        steps.extend([("keep", number) for number in kept])
        left = [number for number in left if number not in kept]
        # a test that speaks of this row is still left
        matches = matches_of(member, row, taken)
        if matches:
            steps.append(("match", row, matches[0]))
            left.remove(matches[0])
        else:
            steps.append(("take", row))
        taken.append(row)
    return tuple(steps + [("keep", number) for number in left])


def changed_plan(member, plan, change):
    if not _is_change(change):
        raise BadChange("change")
    word, at = change
    if not 0 <= at <= len(plan) - _WIDTHS[word]:
        raise BadChange("at")
    steps = tuple([tuple(step) for step in plan])
    behind = at + _WIDTHS[word]
    new = _changed_steps(word, steps[at:behind])
    if new is None:
        raise BadChange("step")
    changed = steps[:at] + new + steps[behind:]
    if judge_plan(member, changed) is not None:
        raise BadChange("plan")
    return changed


def _is_change(thing):
    if not is_couple(thing) or not isinstance(thing[0], str):
        return False
    return thing[0] in _WIDTHS and is_integer(thing[1])


def _changed_steps(word, steps):
    """Return what comes in the place of the steps of a change, None if the change is not for them."""
    words = tuple([step[0] for step in steps])
    if word == "swap":
        return steps[::-1]
    if word == "split":
        return _split(steps[0]) if words == ("match",) else None
    return (("match", steps[0][1], steps[1][1]),) if words == ("take", "keep") else None


def _split(match):
    _, row, number = match
    return (("take", row), ("keep", number))


def way_to_plain(member, plan):
    steps = []
    way = []
    for step in plan:
        if step[0] == "match":
            way.append(("split", len(steps)))
            steps.extend(list(_split(step)))
        else:
            steps.append(tuple(step))
    at = 0
    while at < len(steps) - 1:
        if _rank(steps[at]) > _rank(steps[at + 1]):
            steps[at], steps[at + 1] = steps[at + 1], steps[at]
            way.append(("swap", at))
            # all couples before the one ahead are as they were, in the right order
            at = max(at - 1, 0)
        else:
            at += 1
    return tuple(way)


def _rank(step):
    """Return what tells which of two takes and keeps stands first in the plain plan."""
    return (0 if step[0] == "take" else 1, step[1])


def way_between(member, one, other):
    back = []
    for word, at in reversed(way_to_plain(member, other)):
        back.append(("join" if word == "split" else word, at))
    return way_to_plain(member, one) + tuple(back)
