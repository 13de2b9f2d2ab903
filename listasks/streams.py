"""Putting an answer together row by row."""

from listasks.errors import BadPush
from listasks.kinds import is_integer
from listasks.stitching import cells_fit, id_of, is_id_row, sites_of, value_of_row, with_keys


class OpenRow:
    """A row that was pushed and is still open, with its lists and the id last pushed into each."""

    def __init__(self, own, cells, places):
        self.own = own
        self.cells = cells
        self.lists = {place: [] for place in places}
        self.newest = {}


class Stitcher:
    """What is left of the rows pushed so far: those that are open, and their lists."""

    def __init__(self, kind):
        self.kind = kind
        self._sites = sites_of(kind)
        # the whole value is the list at place 0 of a row around all others, which has the id ()
        self._whole = OpenRow((), (), (0,))
        self._rows = [None for _ in self._sites]
        self._done = False

    @property
    def open_rows(self):
        return len([row for row in self._rows if row is not None])

    @property
    def is_done(self):
        return self._done

    def push(self, place, row):
        what = self._push_fault(place, row)
        if what is not None:
            raise BadPush(place, what)
        told = self._closed(place)
        outer_row = self._row_around(place)
        own = id_of(row[1])
        outer_row.newest[place] = own
        self._rows[place] = OpenRow(own, tuple(row[2]), list(self._sites[place].inner.values()))
        return told

    def finish(self):
        if self._done:
            raise BadPush(0, "done")
        self._done = True
        return self._closed(0)

    def _row_around(self, place):
        """Return the open row around a place, None if none is open there."""
        around = self._sites[place].around
        return self._whole if around is None else self._rows[around]

    def _push_fault(self, place, row):
        """Return the first word that applies to a push, or None."""
        if self._done:
            return "done"
        if not is_integer(place) or not 0 <= place < len(self._sites):
            return "place"
        if not is_id_row(row):
            return "row"
        if not cells_fit(self._sites[place], row[2]):
            return "cells"
        outer_row = self._row_around(place)
        if outer_row is None or id_of(row[0]) != outer_row.own:
            return "orphan"
        newest = outer_row.newest.get(place)
        return None if newest is None or _goes_on(newest, id_of(row[1])) else "order"

    def _closed(self, place):
        """Close the rows at a place and beneath it; return the values of place 0 that this made whole."""
        end = self._sites[place].behind
        for number in reversed(range(place, end)):
            row = self._rows[number]
            if row is not None:
                outer_row = self._row_around(number)
                value = value_of_row(self._sites[number], row.cells, row.lists)
                outer_row.lists[number].append(value)
                self._rows[number] = None
        told = tuple(self._whole.lists[0])
        self._whole.lists[0] = []
        return told


def _goes_on(newest, own):
    """Tell whether an id may follow another one in a list."""
    return isinstance(newest, tuple) == isinstance(own, tuple) and newest < own


def merged_rows(answers):
    rows = []
    for place, lot in enumerate(with_keys(answers)):
        rows.extend([(row[1], place, row) for row in lot])
    for _, place, row in sorted(rows, key=lambda entry: (entry[0], entry[1])):
        yield (place, row)


def stream(kind, answers):
    stitcher = Stitcher(kind)
    for place, row in merged_rows(answers):
        closed = stitcher.push(place, row)
        yield from closed
    rest = stitcher.finish()
    yield from rest
