"""Running members and questions by plans, and counting the rows that are looked at."""

from listasks.errors import BadPlan, BadPlans
from listasks.flatrun import row_of_member, rows_in_order
from listasks.judge import judge_plan, sides_of
from listasks.plans import plan_for
from listasks.worths import worth


class PlanRun:
    """What a run tells: rows, how many bindings stood in each state, and how many rows were looked at."""

    def __init__(self, rows, counts, touched):
        self.rows = rows
        self.counts = counts
        self.touched = touched

    def __eq__(self, other):
        return (isinstance(other, PlanRun) and self.rows == other.rows and self.counts == other.counts
                and self.touched == other.touched)


def sizes_of(store):
    return {table: len(store.rows_of(table)) for table, _ in store.heads}


def _looked_at(member, plan, counts, sizes):
    """Return how many rows a run looks at if so many bindings stand ahead of each step."""
    touched = 0
    for step, count in zip(plan, counts):
        if step[0] == "take":
            touched += count * sizes[member.tables[step[1]]]
        elif step[0] == "match" and count > 0:
            touched += sizes[member.tables[step[1]]]
    return touched


def most_touched(member, plan, sizes):
    counts = [1]
    for step in plan:
        growth = 1 if step[0] == "keep" else sizes[member.tables[step[1]]]
        counts.append(counts[-1] * growth)
    return _looked_at(member, plan, counts, sizes)


def states_of(member, plan, store):
    fault = judge_plan(member, plan)
    if fault is not None:
        at, word = fault
        raise BadPlan(at, word)
    state = ((None,) * len(member.tables),)
    yield state
    for step in plan:
        state = _state_behind(member, step, state, store)
        yield state


def _state_behind(member, step, state, store):
    if not state:
        return ()
    if step[0] == "keep":
        test = member.tests[step[1]]
        return tuple([binding for binding in state if worth(test, _choice_at(member, binding), store)])
    row = step[1]
    numbers = [number for number, _ in store.rows_of(member.tables[row])]
    if step[0] == "take":
        found = [_bound(binding, row, number) for binding in state for number in numbers]
    else:
        found = _matched(member, step, numbers, state, store)
    # the row may stand ahead of others that were chosen before
    return tuple(sorted(found))


def _matched(member, match, numbers, state, store):
    """List the bindings behind a match of a row with one of these numbers."""
    _, row, test = match
    # a test with two sides for the row would be no good match, for each fellow speaks of the row
    column, fellow = sides_of(member.tests[test], row)[0]
    lots = {}
    for number in numbers:
        cell = store.cell_at(member.tables[row], number, column)
        lots.setdefault(cell, []).append(number)
    found = []
    for binding in state:
        due = worth(fellow, _choice_at(member, binding), store)
        found.extend([_bound(binding, row, number) for number in lots.get(due, [])])
    return found


def _bound(binding, row, number):
    return binding[:row] + (number,) + binding[row + 1:]


def _choice_at(member, binding):
    pairs = list(zip(member.tables, binding))
    return tuple([None if number is None else (table, number) for table, number in pairs])


def run_plan(member, plan, store):
    counts = []
    last = ()
    for state in states_of(member, plan, store):
        counts.append(len(state))
        last = state
    rows = [row_of_member(member, _choice_at(member, binding), store) for binding in last]
    return PlanRun(rows_in_order(rows), tuple(counts), _looked_at(member, plan, counts, sizes_of(store)))


def plans_for(question, sizes):
    return tuple([plan_for(member, sizes) for member in question])


def run_question(question, plans, store):
    members = list(question)
    if len(plans) != len(members):
        raise BadPlans(0, 0, "many")
    pairs = list(zip(members, plans))
    for number, (member, plan) in enumerate(pairs):
        fault = judge_plan(member, plan)
        if fault is not None:
            at, word = fault
            raise BadPlans(number, at, word)
    rows = []
    for member, plan in pairs:
        rows.extend(run_plan(member, plan, store).rows)
    return rows_in_order(rows)
