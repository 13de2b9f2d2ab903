"""The rows of a store that the rows of an answer name."""

from listasks.errors import BadKey, NoKey, NoSuchPlace
from listasks.kinds import is_integer
from listasks.lifting import has_sub_question, tables_within


def fits_key(items, key):
    if len(items) != len(key):
        return False
    return all([word == "row" or number == at for (word, at), number in zip(items, key)])


def _fits_row(member, row):
    outer, own, _ = row
    return fits_key(member.outer, outer) and fits_key(member.own, own)


def member_of(question, row):
    for number, member in enumerate(question):
        if _fits_row(member, row):
            return number
    return None


def _whole_key(row):
    outer, own, _ = row
    return (*outer, *own)


def choice_of(member, row):
    if not _fits_row(member, row):
        raise BadKey()
    numbers = {at: number for (word, at), number in zip(member.whole, _whole_key(row)) if word == "row"}
    return tuple([(table, numbers[at]) for at, table in enumerate(member.tables)])


def rows_named(question, row):
    number = member_of(question, row)
    if number is None:
        raise BadKey()
    return tuple(sorted(set(choice_of(question.members[number], row))))


def deep_tables(member):
    tables = set()
    for cell in member.tests + member.cells:
        for table in tables_within(cell):
            tables.add(table)
    return tuple(sorted(tables))


def is_plain(member):
    return not any([has_sub_question(cell) for cell in member.tests + member.cells])


def surviving(question, rows, gone):
    lost = {(table, number): True for table, number in gone}
    kept = []
    for row in rows:
        named = rows_named(question, row)
        if not any([couple in lost for couple in named]):
            outer, own, cells = row
            kept.append((tuple(outer), tuple(own), tuple(cells)))
    return tuple(kept)


def lineage(questions, answers, place, key):
    if not is_integer(place) or not 0 <= place < len(questions):
        raise NoSuchPlace(place)
    start = tuple(key)
    if start not in [_whole_key(row) for row in answers[place]]:
        raise NoKey(place, start)
    named = set()
    for number, question in enumerate(questions):
        for row in answers[number]:
            if _is_within(question.place, _whole_key(row), questions[place].place, start):
                for couple in rows_named(question, row):
                    named.add(couple)
    return tuple(sorted(named))


def _is_within(place, key, outer_place, outer_key):
    """Tell whether a row with a place and a whole key is, or is part of, that with the outer ones."""
    if place == outer_place:
        return key == outer_key
    return place[:len(outer_place)] == outer_place and key[:len(outer_key)] == outer_key
