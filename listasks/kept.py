"""Answers that are kept while rows are put and taken."""

from listasks.compiling import questions_of
from listasks.errors import NoSuchPlace
from listasks.flatrun import choices_with, row_of_member, rows_in_order, run_member
from listasks.kinds import is_integer
from listasks.named import choice_of, deep_tables
from listasks.stitching import stitch, with_keys


def put_rows(member, table, number, store):
    rows = []
    for at, other in enumerate(member.tables):
        if other == table:
            # where the row stands further ahead, too, it has been found there
            choices = [choice for choice in choices_with(member, {at: number}, store)
                       if (table, number) not in choice[:at]]
            rows.extend([row_of_member(member, choice, store) for choice in choices])
    return rows_in_order(rows)


class Change:
    """What a deed did to the rows of one place."""

    def __init__(self, place, gone, come, anew):
        self.place = place
        self.gone = gone
        self.come = come
        self.anew = anew

    def __eq__(self, other):
        return (isinstance(other, Change) and self.place == other.place and self.gone == other.gone
                and self.come == other.come and self.anew == other.anew)


class Kept:
    """A program's answer, kept member by member, with the store that it is the answer for."""

    def __init__(self, program, store):
        self.program = program
        self.questions = questions_of(program)
        self.store = store.copied()
        self._deep = [[deep_tables(member) for member in question] for question in self.questions]
        self._lots = [[run_member(member, store) for member in question] for question in self.questions]
        self._rows = [_joined(lots) for lots in self._lots]
        self._changes = ()

    @property
    def last(self):
        return self._changes

    def put(self, table, cells):
        number = self.store.put(table, cells)
        self._go_along((table, number), True)
        return number

    def take(self, table, number):
        cells = self.store.take(table, number)
        self._go_along((table, number), False)
        return cells

    def _go_along(self, couple, is_put):
        """Do what is to be done when a row (table, number) has been put, or else taken."""
        changes = []
        for place in range(len(self.questions)):
            change = self._changed_place(place, couple, is_put)
            changes.append(change)
        self._changes = tuple(changes)

    def _changed_place(self, place, couple, is_put):
        """Bring the rows of one place up to date, and return their Change."""
        table, _ = couple
        gone, come, anew, lots = [], [], [], []
        for at, member in enumerate(self.questions[place]):
            before = self._lots[place][at]
            if table in self._deep[place][at]:
                anew.append(at)
                after = run_member(member, self.store)
                less, more = _rows_less(before, after), _rows_less(after, before)
            else:
                less, more = self._difference(member, before, couple, is_put)
                after = _rows_less(before, less) + more
            gone.extend(less)
            come.extend(more)
            lots.append(after)
        self._lots[place] = lots
        self._rows[place] = _joined(lots)
        return Change(place, rows_in_order(gone), rows_in_order(come), tuple(anew))

    def _difference(self, member, rows, couple, is_put):
        """Return the rows that go and those that come when the table stands in no tree of the member."""
        table, number = couple
        if table not in member.tables:
            return (), ()
        if is_put:
            return (), put_rows(member, table, number, self.store)
        return tuple([row for row in rows if couple in choice_of(member, row)]), ()

    def rows_at(self, place):
        if not is_integer(place) or not 0 <= place < len(self.questions):
            raise NoSuchPlace(place)
        return self._rows[place]

    def told_now(self):
        return stitch(self.program.kind, with_keys(self._rows))

    def store_now(self):
        return self.store.copied()


def _joined(lots):
    """Return the rows of all members in order."""
    return rows_in_order([row for lot in lots for row in lot])


def _rows_less(rows, others):
    """Return the rows that are none of the others."""
    known = {row: True for row in others}
    return tuple([row for row in rows if row not in known])
