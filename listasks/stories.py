"""Stories: the deeds of a desk as a text, performed again, and told shorter."""

from listasks.desk import DEED_ROLES, Desk
from listasks.errors import BadForm
from listasks.kinds import is_integer, is_name
from listasks.texts import built_cells, cells_form, heads_form, heads_of_form, is_cells_form, term_form, term_of_form
from listasks.words import begins_with, print_form, read_form

_BLANKS = {"int": 0, "text": "", "truth": False}


def story_text(heads, deeds):
    return print_form(("story", heads_form(heads), *[_deed_form(deed) for deed in deeds]))


def _deed_form(deed):
    word, *items = deed
    return (word, *[_item_form(item, role) for item, role in zip(items, DEED_ROLES[word])])


def _item_form(item, role):
    if role == "term":
        return term_form(item)
    return cells_form(item) if role == "cells" else item


def story_of(text):
    form = read_form(text)
    if not begins_with(form, "story") or len(form) < 2 or not all([_is_deed_form(part) for part in form[2:]]):
        raise BadForm("story")
    heads = heads_of_form(form[1])
    return heads, tuple([_built_deed(part) for part in form[2:]])


def _is_deed_form(form):
    if not isinstance(form, tuple) or len(form) == 0 or not isinstance(form[0], str):
        return False
    if form[0] not in DEED_ROLES:
        return False
    roles = DEED_ROLES[form[0]]
    if len(form) != len(roles) + 1:
        return False
    return all([_is_item_form(item, role) for item, role in zip(form[1:], roles)])


def _is_item_form(form, role):
    if role == "name":
        return is_name(form)
    if role == "cells":
        return is_cells_form(form)
    return role == "term" or (is_integer(form) and form >= 1)


def _built_deed(form):
    word, *items = form
    return (word, *[_built_item(item, role) for item, role in zip(items, DEED_ROLES[word])])


def _built_item(form, role):
    if role == "term":
        return term_of_form(form)
    return built_cells(form) if role == "cells" else form


def replayed(heads, deeds):
    desk = Desk(heads)
    desk.perform_all(deeds)
    return desk


def shortened(desk):
    store = desk.store_copy()
    deeds = []
    for table, columns in desk.heads:
        blank = tuple([_BLANKS[kind] for _, kind in columns])
        rows = dict(store.rows_of(table))
        for number in range(1, store.following(table)):
            deeds.append(("put", table, rows.get(number, blank)))
            if number not in rows:
                deeds.append(("take", table, number))
    return tuple(deeds + _lasting_deeds(desk.story))


def _lasting_deeds(story):
    """List the deeds that made the definitions, and the answers that are still kept, in order."""
    lasting = {}
    kept = {}
    for at, deed in enumerate(story):
        if deed[0] == "define" or deed[0] == "keep":
            lasting[at] = deed
        if deed[0] == "keep":
            kept[deed[1]] = at
        if deed[0] == "drop":
            del lasting[kept[deed[1]]]
    return list(lasting.values())
