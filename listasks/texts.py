"""The texts of kinds, terms, heads, stores and programs, written and read."""

from listasks.errors import BadForm
from listasks.kinds import check_kind, is_base, is_integer, is_name, kind_head, kind_parts
from listasks.stores import Store, check_heads
from listasks.terms import ROLES, check_term, children
from listasks.walks import fold
from listasks.words import begins_with, print_form, read_form


def kind_form(kind):
    return fold(kind, kind_parts, _form_of_kind)


def _form_of_kind(kind, forms):
    word, more = kind_head(kind)
    if is_base(kind):
        return word
    if word == "record":
        return ("record", *_flat(list(zip(more, forms))))
    if word == "any":
        return kind
    return (word, *forms)


def _flat(couples):
    """Return the items of all couples as one tuple."""
    return tuple([item for couple in couples for item in couple])


def _exchanged(items, roles, parts, change):
    """Return the items with the parts in the place of terms and change(kind) in that of kinds."""
    rest = list(parts)
    exchanged = []
    for item, role in zip(items, roles):
        if role == "term":
            exchanged.append(rest.pop(0))
        elif role == "kind":
            exchanged.append(change(item))
        else:
            exchanged.append(item)
    return tuple(exchanged)


def term_form(term):
    return fold(term, children, _form_of_term)


def _form_of_term(term, forms):
    word = term[0]
    if word == "number" or word == "name":
        return term[1]
    if word == "truth":
        return ("truth", _yes_or_no(term[1]))
    if word == "record":
        labels = [label for label, _ in term[1]]
        return ("record", *_flat(list(zip(labels, forms))))
    return (word, *_exchanged(term[1:], ROLES[word], forms, kind_form))


def _yes_or_no(truth):
    return "yes" if truth else "no"


def heads_form(heads):
    couples = [(table, ("columns", *_flat(columns))) for table, columns in heads]
    return ("tables", *_flat(couples))


def store_form(store):
    lots = [_lot_form(store, table) for table, _ in store.heads]
    return ("store", heads_form(store.heads), *lots)


def _lot_form(store, table):
    couples = [(number, cells_form(cells)) for number, cells in store.rows_of(table)]
    return ("rows", store.following(table), *_flat(couples))


def cells_form(cells):
    return ("cells", *[_cell_form(cell) for cell in cells])


def _cell_form(cell):
    if isinstance(cell, bool):
        return _yes_or_no(cell)
    if isinstance(cell, str):
        return ("text", cell)
    return cell


def program_form(program):
    couples = [(name, term_form(term)) for name, term in program.definitions]
    defined = ("defined", *_flat(couples))
    return ("program", heads_form(program.heads), defined, term_form(program.asking))


def _has_shape(form, inner):
    """Tell whether inner, which tells the forms within a good one, finds no form bad."""
    todo = [form]
    while todo:
        parts = inner(todo.pop())
        if parts is None:
            return False
        todo.extend(parts)
    return True


def _are_couples(form, is_first, is_second):
    """Tell whether what stands behind the word are first and second things in turn."""
    if len(form) - 1 != 2 * len(form[2::2]):
        return False
    firsts = [is_first(item) for item in form[1::2]]
    return all(firsts) and all([is_second(item) for item in form[2::2]])


def _is_anything(form):
    return True


def _kinds_in(form):
    """Return the forms of kinds within what is read as a kind, or None if it is none itself."""
    if is_base(form):
        return ()
    if begins_with(form, "list") and len(form) == 2:
        return form[1:]
    if begins_with(form, "function") and len(form) == 3:
        return form[1:]
    if begins_with(form, "record") and _are_couples(form, is_name, _is_anything):
        return form[2::2]
    if begins_with(form, "any") and len(form) == 2 and is_integer(form[1]):
        return ()
    return None


def _is_kind_form(form):
    return _has_shape(form, _kinds_in)


def _kind_made(form, kinds):
    if begins_with(form, "record"):
        return ("record", tuple(zip(form[1::2], kinds)))
    if is_base(form) or form[0] == "any":
        return form
    return (form[0], *kinds)


def _built_kind(form):
    return fold(form, _kinds_in, _kind_made)


def kind_of_form(form):
    if not _is_kind_form(form):
        raise BadForm("kind")
    return check_kind(_built_kind(form))


def _terms_in(form):
    """Return the forms of terms within what is read as a term, or None if it is none itself."""
    if is_integer(form):
        return ()
    if isinstance(form, str):
        return () if is_name(form) else None
    if not isinstance(form, tuple) or len(form) == 0 or not isinstance(form[0], str):
        return None
    word = form[0]
    if word == "truth":
        return () if form == ("truth", "yes") or form == ("truth", "no") else None
    if word == "record":
        return form[2::2] if _are_couples(form, is_name, _is_anything) else None
    if word == "number" or word == "name" or word not in ROLES:
        return None
    return _terms_behind(form, ROLES[word])


def _terms_behind(form, roles):
    if len(form) != len(roles) + 1:
        return None
    inner = []
    for item, role in zip(form[1:], roles):
        if role == "term":
            inner.append(item)
        elif role == "name" and not is_name(item):
            return None
        elif role == "kind" and not _is_kind_form(item):
            return None
    return tuple(inner)


def _is_term_form(form):
    return _has_shape(form, _terms_in)


def _term_made(form, terms):
    if is_integer(form):
        return ("number", form)
    if isinstance(form, str):
        return ("name", form)
    word = form[0]
    if word == "truth":
        return ("truth", form[1] == "yes")
    if word == "record":
        return ("record", tuple(zip(form[1::2], terms)))
    return (word, *_exchanged(form[1:], ROLES[word], terms, _built_kind))


def _built_term(form):
    return fold(form, _terms_in, _term_made)


def term_of_form(form):
    if not _is_term_form(form):
        raise BadForm("term")
    return check_term(_built_term(form))


def _is_columns_form(form):
    return begins_with(form, "columns") and _are_couples(form, is_name, is_base)


def _is_heads_form(form):
    return begins_with(form, "tables") and _are_couples(form, is_name, _is_columns_form)


def _built_heads(form):
    columns = [tuple(zip(item[1::2], item[2::2])) for item in form[2::2]]
    return tuple(zip(form[1::2], columns))


def heads_of_form(form):
    if not _is_heads_form(form):
        raise BadForm("heads")
    return check_heads(_built_heads(form))


def _is_cell_form(form):
    return is_integer(form) or form == "yes" or form == "no" or begins_with(form, "text")


def is_cells_form(form):
    return begins_with(form, "cells") and all([_is_cell_form(item) for item in form[1:]])


def _is_lot_form(form):
    if not begins_with(form, "rows") or len(form) < 2 or not is_integer(form[1]):
        return False
    return _are_couples(form[1:], is_integer, is_cells_form)


def _built_cell(form):
    if is_integer(form):
        return form
    return form == "yes" if isinstance(form, str) else form[1]


def built_cells(form):
    return tuple([_built_cell(item) for item in form[1:]])


def _built_lot(form):
    rows = [built_cells(cells) for cells in form[3::2]]
    return (form[1], tuple(zip(form[2::2], rows)))


def store_of_form(form):
    if not begins_with(form, "store") or len(form) < 2 or not _is_heads_form(form[1]):
        raise BadForm("store")
    if not all([_is_lot_form(item) for item in form[2:]]):
        raise BadForm("store")
    return Store.from_rows(_built_heads(form[1]), tuple([_built_lot(item) for item in form[2:]]))


def _is_defined_form(form):
    return begins_with(form, "defined") and _are_couples(form, is_name, _is_term_form)


def _is_program_form(form):
    if not begins_with(form, "program") or len(form) != 4:
        return False
    return _is_heads_form(form[1]) and _is_defined_form(form[2]) and _is_term_form(form[3])


def kind_text(kind):
    return print_form(kind_form(kind))


def term_text(term):
    return print_form(term_form(term))


def store_text(store):
    return print_form(store_form(store))


def program_text(program):
    return print_form(program_form(program))


def kind_of(text):
    return kind_of_form(read_form(text))


def term_of(text):
    return term_of_form(read_form(text))


def store_of(text):
    return store_of_form(read_form(text))


def program_parts(text):
    form = read_form(text)
    if not _is_program_form(form):
        raise BadForm("program")
    heads = check_heads(_built_heads(form[1]))
    names = form[2][1::2]
    terms = [check_term(_built_term(item)) for item in form[2][2::2]]
    return heads, tuple(zip(names, terms)), check_term(_built_term(form[3]))
