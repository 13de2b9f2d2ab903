"""A desk, at which deeds are performed: a store, definitions, and answers that are kept."""

from listasks.compiling import answers_of, questions_of
from listasks.errors import AskError, BadDeed, Known, NoKept, Refused
from listasks.kept import Kept
from listasks.kinds import BASE_KINDS, fits_base, is_name, is_sequence
from listasks.programs import Program
from listasks.questions import question_text
from listasks.sameness import pairs_of, parting_of
from listasks.stitching import stitch, with_keys
from listasks.stores import Store, check_heads
from listasks.terms import check_term

# What stands behind the word of a deed, item by item.
DEED_ROLES = {
    "put": ("name", "cells"),
    "take": ("name", "number"),
    "define": ("name", "term"),
    "ask": ("term",),
    "keep": ("name", "term"),
    "told": ("name",),
    "drop": ("name",),
    "compare": ("term", "term"),
}


def check_deed(deed):
    if not is_sequence(deed) or len(deed) == 0 or not isinstance(deed[0], str) or deed[0] not in DEED_ROLES:
        raise BadDeed("deed")
    word, *items = deed
    if len(items) != len(DEED_ROLES[word]):
        raise BadDeed("parts")
    pairs = list(zip(items, DEED_ROLES[word]))
    for item, role in pairs:
        if not _fits_role(item, role):
            raise BadDeed(role)
    return (word, *[_checked_item(item, role) for item, role in pairs])


def _fits_role(item, role):
    """Tell whether an item of a deed is what its role asks for; of terms nothing is asked here."""
    if role == "name":
        return is_name(item)
    if role == "cells":
        return is_sequence(item) and all([_fits_some_base(value) for value in item])
    return role == "term" or (fits_base(item, "int") and item >= 1)


def _fits_some_base(value):
    return any([fits_base(value, kind) for kind in BASE_KINDS])


def _checked_item(item, role):
    if role == "term":
        return check_term(item)
    return tuple(item) if role == "cells" else item


class Desk:
    """A store, definitions and kept answers, and what has been done with them."""

    def __init__(self, heads):
        self.heads = check_heads(heads)
        self.definitions = ()
        self.kept_names = ()
        self.story = ()
        self.sent = ()
        self._store = Store(self.heads)
        self._kept = {}
        # the names and askings of the kept answers, in order
        self._askings = ()

    def __eq__(self, other):
        return (isinstance(other, Desk) and self.heads == other.heads and self.definitions == other.definitions
                and self._store == other._store and self._askings == other._askings)

    def store_copy(self):
        return self._store.copied()

    def kept_program(self, name):
        return self._kept_as(name).program

    def copied(self):
        desk = Desk(self.heads)
        desk._become(self._state())
        return desk

    def perform(self, deed):
        checked = check_deed(deed)
        told = self._performed(checked)
        self.story = self.story + (checked,)
        return told

    def perform_all(self, deeds, *, keep=True):
        before = self._state()
        told = []
        for at, deed in enumerate(deeds):
            try:
                told.append(self.perform(deed))
            except AskError:
                self._become(before)
                raise Refused(at) from None
        if not keep:
            self._become(before)
        return tuple(told)

    def _state(self):
        """Return all that the desk is made of, of which nothing changes any more."""
        programs = tuple([(name, self._kept[name].program) for name in self.kept_names])
        return (self._store.copied(), self.definitions, programs, self.story, self.sent)

    def _become(self, state):
        store, definitions, programs, story, sent = state
        self.definitions = definitions
        self.story = story
        self.sent = sent
        self._store = store.copied()
        self._set_kept({name: Kept(program, store) for name, program in programs})

    def _set_kept(self, kept):
        self._kept = kept
        self.kept_names = tuple(kept)
        self._askings = tuple([(name, kept[name].program.asking) for name in kept])

    def _performed(self, deed):
        """Do a checked deed, and return what it returns."""
        word, first = deed[0], deed[1]
        if word == "put":
            return self._put(first, deed[2])
        if word == "take":
            return self._take(first, deed[2])
        if word == "define":
            return self._define(first, deed[2])
        if word == "ask":
            return self._ask(first)
        if word == "keep":
            return self._keep(first, deed[2])
        if word == "told":
            return self._kept_as(first).told_now()
        return self._drop(first) if word == "drop" else self._compare(first, deed[2])

    def _put(self, table, cells):
        number = self._store.put(table, cells)
        for kept in list(self._kept.values()):
            kept.put(table, cells)
        return number

    def _take(self, table, number):
        cells = self._store.take(table, number)
        for kept in list(self._kept.values()):
            kept.take(table, number)
        return cells

    def _define(self, name, term):
        if name in [known for known, _ in self.definitions]:
            raise Known(name)
        program = Program(self.heads, self.definitions + ((name, term),), ("none",))
        self.definitions = program.definitions
        return program.kinds[-1]

    def _program(self, asking):
        return Program(self.heads, self.definitions, asking)

    def _send(self, questions):
        number = len(self.story)
        self.sent = self.sent + tuple([(number, question_text(question)) for question in questions])

    def _ask(self, asking):
        program = self._program(asking)
        questions = questions_of(program)
        value = stitch(program.kind, with_keys(answers_of(questions, self._store)))
        self._send(questions)
        return value

    def _keep(self, name, asking):
        if name in self._kept:
            raise Known(name)
        kept = Kept(self._program(asking), self._store)
        self._send(kept.questions)
        self._set_kept({**self._kept, name: kept})
        return kept.told_now()

    def _kept_as(self, name):
        if name not in self._kept:
            raise NoKept(name)
        return self._kept[name]

    def _drop(self, name):
        value = self._kept_as(name).told_now()
        self._set_kept({other: self._kept[other] for other in self._kept if other != name})
        return value

    def _compare(self, asking, other):
        one, mate = self._program(asking), self._program(other)
        pairs = pairs_of(one, mate)
        return ("alike", pairs) if pairs is not None else ("parted", parting_of(one, mate))
