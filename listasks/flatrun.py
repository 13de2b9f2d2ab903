"""The plain run of a flat question: its rows over a store."""

from listasks.keys import key_from
from listasks.lifting import rows_spoken, tables_within
from listasks.worths import all_true, worth


def row_of_member(member, choice, store):
    cells = tuple([worth(cell, choice, store) for cell in member.cells])
    return (key_from(member.outer, choice), key_from(member.own, choice), cells)


def rows_in_order(rows):
    # rows may be made of lists, and none that was passed may be returned
    kept = [(tuple(outer), tuple(own), tuple(cells)) for outer, own, cells in rows]
    return tuple(sorted(kept, key=lambda row: (row[0], row[1])))


def run_member(member, store):
    return rows_in_order(_rows_with(member, {}, store))


def run_plain(question, store):
    return rows_in_order([row for member in question for row in _rows_with(member, {}, store)])


def run_under(question, outer, store):
    rows = []
    for member in question:
        numbers = _numbers_told(member.outer, outer)
        if numbers is not None:
            rows.extend(_rows_with(member, numbers, store))
    return rows_in_order(rows)


def _numbers_told(items, key):
    """Return a dict from rows to the numbers that the key tells for them, None if it does not fit."""
    if len(items) != len(key):
        return None
    numbers = {}
    for (word, at), number in zip(items, key):
        due = at if word == "part" else numbers.setdefault(at, number)
        if number != due:
            return None
    return numbers


def _rows_with(member, numbers, store):
    """List the rows of the choices that have these numbers and at which all tests are true."""
    return [row_of_member(member, choice, store) for choice in choices_with(member, numbers, store)]


def choices_with(member, numbers, store):
    """List the choices at which all tests are true and that have the numbers of a dict at its rows."""
    depth = len(member.tables)
    ready = _tests_by_rows(member)
    choices = [()]
    for count in range(depth + 1):
        if count > 0:
            couples = _couples_at(member, count - 1, numbers, store)
            choices = [choice + (couple,) for choice in choices for couple in couples]
        if ready[count]:
            rest = (None,) * (depth - count)
            choices = [choice for choice in choices if all_true(ready[count], choice + rest, store)]
    return choices


def _tests_by_rows(member):
    """Return a list of lists: at k the tests that can be asked as soon as the first k rows are chosen."""
    depth = len(member.tables)
    ready = [[] for _ in range(depth + 1)]
    for test in member.tests:
        count = 1 + max(rows_spoken(test, depth), default=-1)
        ready[count].append(test)
    return ready


def _couples_at(member, row, numbers, store):
    """List (table, number) of the rows that can be chosen at one place of the choice."""
    table = member.tables[row]
    found = [number for number, _ in store.rows_of(table)]
    return [(table, number) for number in found if numbers.get(row, number) == number]


def tables_named(question):
    tables = set()
    for member in question:
        for table in member.tables:
            tables.add(table)
        for cell in member.tests + member.cells:
            for table in tables_within(cell):
                tables.add(table)
    return tuple(sorted(tables))
