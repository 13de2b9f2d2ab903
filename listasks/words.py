"""Forms and their spellings."""

from listasks.errors import BadText
from listasks.kinds import (
    DIGITS,
    LETTERS,
    MOST_DIGITS,
    MOST_NAME_SIGNS,
    MOST_TEXT_SIGNS,
    NAME_SIGNS,
    is_text_sign,
)
from listasks.walks import fold

MOST_TUPLES = 40


def begins_with(form, word):
    """Tell whether the form is a tuple that begins with the word."""
    return isinstance(form, tuple) and len(form) > 0 and form[0] == word


def print_form(form):
    return fold(form, _forms_in, _spelling)


def _forms_in(form):
    if not isinstance(form, tuple) or begins_with(form, "text"):
        return ()
    return form


def _spelling(form, parts):
    if begins_with(form, "text"):
        return '"' + form[1] + '"'
    if isinstance(form, tuple):
        return "(" + " ".join(parts) + ")"
    return str(form)


def read_form(text):
    begun = []
    at = 0
    while True:
        if _has_sign(text, at, "("):
            if len(begun) == MOST_TUPLES:
                raise BadText(at)
            begun.append([])
            at += 1
            if not _has_sign(text, at, ")"):
                continue
        else:
            form, at = _read_plain(text, at)
            if not begun:
                return _whole(form, text, at)
            if form == "text" and not begun[-1]:
                raise BadText(at)
            begun[-1].append(form)
        while _has_sign(text, at, ")"):
            form = tuple(begun.pop())
            at += 1
            if not begun:
                return _whole(form, text, at)
            begun[-1].append(form)
        if not _has_sign(text, at, " "):
            raise BadText(at)
        at += 1


def _whole(form, text, at):
    """Return the form that ends at this place if the text ends there, too."""
    if at < len(text):
        raise BadText(at)
    return form


def _has_sign(text, at, signs):
    return at < len(text) and text[at] in signs


def _end_of(text, at, signs, most):
    """Return the place behind the run of at most so many of these signs that begins at `at`."""
    end = at
    while end - at < most and _has_sign(text, end, signs):
        end += 1
    return end


def _read_plain(text, at):
    """Read a form that is no tuple of forms; return it and the place behind it."""
    if _has_sign(text, at, LETTERS):
        end = _end_of(text, at, NAME_SIGNS, MOST_NAME_SIGNS)
        return text[at:end], end
    if _has_sign(text, at, '"'):
        return _read_quoted(text, at)
    return _read_number(text, at)


def _read_number(text, at):
    if _has_sign(text, at, "0"):
        return 0, at + 1
    first = at + 1 if _has_sign(text, at, "-") else at
    if not _has_sign(text, first, DIGITS) or text[first] == "0":
        raise BadText(first)
    end = _end_of(text, first, DIGITS, MOST_DIGITS)
    return int(text[at:end]), end


def _read_quoted(text, at):
    end = at + 1
    while end <= at + MOST_TEXT_SIGNS and end < len(text) and is_text_sign(text[end]):
        end += 1
    if not _has_sign(text, end, '"'):
        raise BadText(end)
    return ("text", text[at + 1:end]), end + 1
