"""The texts of flat questions, and what is wrong with a question over some tables."""

from listasks.cells import cell_form, is_row_of_tests
from listasks.errors import BadCell, BadForm
from listasks.forms import cell_of_form
from listasks.kinds import is_integer, is_name
from listasks.members import FlatQuestion, Member, has_all_rows
from listasks.words import begins_with, print_form, read_form
from listasks.worths import cell_kind

_PARTS = ("tables", "tests", "outer", "own", "cells")


def question_text(question):
    steps = [() if step == "*" else step for step in question.place]
    members = [_member_form(member) for member in question]
    return print_form(("question", ("place", *steps), *members))


def _member_form(member):
    tests = [cell_form(cell) for cell in member.tests]
    cells = [cell_form(cell) for cell in member.cells]
    return (
        "member",
        ("tables", *member.tables),
        ("tests", *tests),
        ("outer", *member.outer),
        ("own", *member.own),
        ("cells", *cells),
    )


def question_of(text):
    form = read_form(text)
    if not begins_with(form, "question") or len(form) < 2 or not _is_place_form(form[1]):
        raise BadForm("question")
    place = tuple(["*" if step == () else step for step in form[1][1:]])
    return FlatQuestion(place, tuple([_member_of_form(member) for member in form[2:]]))


def _is_place_form(form):
    return begins_with(form, "place") and all([step == () or is_name(step) for step in form[1:]])


def _member_of_form(form):
    if not begins_with(form, "member") or len(form) != len(_PARTS) + 1:
        raise BadForm("question")
    if not all([begins_with(part, word) for part, word in zip(form[1:], _PARTS)]):
        raise BadForm("question")
    tables, tests, outer, own, cells = [part[1:] for part in form[1:]]
    if not all([is_name(table) for table in tables]) or not all([_is_item(item) for item in outer + own]):
        raise BadForm("question")
    return Member(tables, _cells_of(tests), outer, own, _cells_of(cells))


def _is_item(form):
    if not begins_with(form, "row") and not begins_with(form, "part"):
        return False
    return len(form) == 2 and is_integer(form[1]) and form[1] >= 0


def _cells_of(forms):
    cells = tuple([cell_of_form(form) for form in forms])
    if None in cells:
        raise BadForm("question")
    return cells


def question_fault(question, heads):
    for number, member in enumerate(question):
        word = _member_fault(question, number, heads)
        if word is not None:
            return (number, word)
    return None


def _member_fault(question, number, heads):
    """Return the first word that applies to a member all before which are good, or None."""
    member = question.members[number]
    known = [table for table, _ in heads]
    if not all([table in known for table in member.tables]):
        return "table"
    if not has_all_rows(member):
        return "rows"
    if not all([_kind_of(test, heads, member.tables) == "truth" for test in member.tests]):
        return "test"
    if not is_row_of_tests(member.tests):
        return "tests"
    kinds = [_kind_of(cell, heads, member.tables) for cell in member.cells]
    if None in kinds:
        return "cell"
    first = question.members[0]
    if kinds != [_kind_of(cell, heads, first.tables) for cell in first.cells]:
        return "kinds"
    return "twice" if any([_can_meet(member, other) for other in question.members[:number]]) else None


def _kind_of(cell, heads, tables):
    """Return the kind of a cell, or None if it does not fit."""
    try:
        return cell_kind(cell, heads, tables)
    except BadCell:
        return None


def _can_meet(one, other):
    """Tell whether rows of two members can have the same outer key and own key."""
    if len(one.outer) != len(other.outer) or len(one.own) != len(other.own):
        return False
    for item, mate in zip(one.whole, other.whole):
        if item[0] == "part" and mate[0] == "part" and item[1] != mate[1]:
            return False
    return True
