"""What a step of a plan may ask of a member's tests, and what is wrong with a plan."""

from listasks.kinds import is_integer, is_sequence
from listasks.lifting import has_sub_question, rows_spoken

# How many numbers stand behind the word of a step.
_NUMBERS = {"take": 1, "match": 2, "keep": 1}


def speaks_within(cell, depth, rows):
    """Tell whether a cell at the depth speaks of none but these rows."""
    return all([row in rows for row in rows_spoken(cell, depth)])


def _sides_of(test, row):
    """List (column, fellow) of the sides of a test for a row."""
    if test[0] != "equal":
        return []
    _, one, other = test
    pairs = [(one, other), (other, one)]
    sides = [(cell[2], fellow) for cell, fellow in pairs if cell[:2] == ("column", row)]
    return [(column, fellow) for column, fellow in sides if not has_sub_question(fellow)]


def ready_sides(member, number, row, taken):
    """List (column, fellow) of the sides of a test for a row whose fellows speak of taken rows alone."""
    depth = len(member.tables)
    sides = _sides_of(member.tests[number], row)
    return [(column, fellow) for column, fellow in sides if speaks_within(fellow, depth, taken)]


def matches_of(member, r, taken):
    return tuple([number for number in range(len(member.tests)) if ready_sides(member, number, r, taken)])


def judge_plan(member, plan):
    taken = []
    used = []
    for at, step in enumerate(plan):
        word = _step_fault(member, step, taken, used)
        if word is not None:
            return (at, word)
        if step[0] != "keep":
            taken.append(step[1])
        if step[0] != "take":
            used.append(step[-1])
    if len(taken) < len(member.tables):
        return (len(plan), "row")
    return (len(plan), "test") if len(used) < len(member.tests) else None


def _is_step(thing):
    if not is_sequence(thing) or len(thing) == 0 or not isinstance(thing[0], str):
        return False
    if thing[0] not in _NUMBERS or len(thing) != _NUMBERS[thing[0]] + 1:
        return False
    return all([is_integer(number) for number in thing[1:]])


def _step_fault(member, step, taken, used):
    """Return the first word that applies to a step behind good ones, or None."""
    if not _is_step(step):
        return "step"
    rows = step[1:2] if step[0] != "keep" else ()
    tests = step[-1:] if step[0] != "take" else ()
    if not all([0 <= row < len(member.tables) for row in rows]):
        return "row"
    if not all([0 <= number < len(member.tests) for number in tests]):
        return "test"
    if any([row in taken for row in rows]):
        return "taken"
    if any([number in used for number in tests]):
        return "used"
    if step[0] == "match":
        return _match_fault(member, step[1], step[2], taken)
    if step[0] == "keep" and not speaks_within(member.tests[step[1]], len(member.tables), taken):
        return "early"
    return None


def _match_fault(member, row, number, taken):
    if not _sides_of(member.tests[number], row):
        return "equal"
    return None if ready_sides(member, number, row, taken) else "early"
