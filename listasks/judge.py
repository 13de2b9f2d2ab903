"""What a step of a plan may ask of a member's tests, and what is wrong with a plan."""

from listasks.kinds import is_integer, is_sequence
from listasks.lifting import has_sub_question, rows_spoken

# How many numbers stand behind the word of a step.
_NUMBERS = {"take": 1, "match": 2, "keep": 1}


def speaks_within(cell, depth, rows):
    """Tell whether a cell at the depth speaks of none but these rows."""
    return all([row in rows for row in rows_spoken(cell, depth)])


def sides_of(test, row):
    """List (column, fellow) of the sides of a test for a row."""
    if test[0] != "equal":
        return []
    _, one, other = test
    pairs = [(one, other), (other, one)]
    sides = [(cell[2], fellow) for cell, fellow in pairs if cell[:2] == ("column", row)]
    return [(column, fellow) for column, fellow in sides if not has_sub_question(fellow)]


def _is_ready(member, test, row, taken):
    """Tell whether a test has a side for a row whose fellow speaks of taken rows alone."""
    depth = len(member.tables)
    return any([speaks_within(fellow, depth, taken) for _, fellow in sides_of(test, row)])


def matches_of(member, r, taken):
    return tuple([number for number, test in enumerate(member.tests) if _is_ready(member, test, r, taken)])


def judge_plan(member, plan):
    taken = []
    used = []
    for at, step in enumerate(plan):
        word = _step_fault(member, step, taken, used)
        if word is not None:
            return (at, word)
        if step[0] != "keep":
            taken.append(step[1])
        if step[0] != "take":
            used.append(step[-1])
    if len(taken) < len(member.tables):
        return (len(plan), "row")
    return (len(plan), "test") if len(used) < len(member.tests) else None


def _is_step(thing):
    if not is_sequence(thing) or len(thing) == 0 or not isinstance(thing[0], str):
        return False
    if thing[0] not in _NUMBERS or len(thing) != _NUMBERS[thing[0]] + 1:
        return False
    return all([is_integer(number) for number in thing[1:]])


def _step_fault(member, step, taken, used):
    """Return the first word that applies to a step behind good ones, or None."""
    if not _is_step(step):
        return "step"
    rows = step[1:2] if step[0] != "keep" else ()
    tests = step[-1:] if step[0] != "take" else ()
    if not all([0 <= row < len(member.tables) for row in rows]):
        return "row"
    if not all([0 <= number < len(member.tests) for number in tests]):
        return "test"
    if any([row in taken for row in rows]):
        return "taken"
    if any([number in used for number in tests]):
        return "used"
    if step[0] == "match":
        return _match_fault(member, member.tests[step[2]], step[1], taken)
    if step[0] == "keep" and not speaks_within(member.tests[step[1]], len(member.tables), taken):
        return "early"
    return None


def _match_fault(member, test, row, taken):
    if not sides_of(test, row):
        return "equal"
    return None if _is_ready(member, test, row, taken) else "early"
