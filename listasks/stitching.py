"""Putting answers together: places by number, ids, and the value that the rows of all places tell."""

from listasks.errors import BadAnswers, NoId, NoSuchPlace
from listasks.kinds import (
    fields_at,
    flat_paths,
    is_base,
    is_integer,
    is_sequence,
    kind_at,
    list_places,
    place_around,
)
from listasks.walks import fold


class Site:
    """What is to be known of one place of a kind.

    It has the number of the place around (None for place 0), the kind of the things there, the paths
    to their cells and the base kinds of these, a dict from the labels that lead from such a thing to a
    list within it to that list's place number, and the number behind those of the places beneath.
    """

    def __init__(self, around, thing, behind):
        self.around = around
        self.thing = thing
        self.paths = flat_paths(thing)
        self.bases = tuple([kind_at(thing, path) for path in self.paths])
        self.inner = {}
        self.behind = behind


def sites_of(kind):
    """List the sites of a kind, one for each place in order."""
    places = list_places(kind)
    numbers = {place: number for number, place in enumerate(places)}
    sites = []
    for number, place in enumerate(places):
        outer = place_around(place)
        around = None if outer is None else numbers[outer]
        sites.append(Site(around, kind_at(kind, place + ("*",)), number + 1))
        if outer is not None:
            sites[around].inner[place[len(outer) + 1:]] = number
    for number in reversed(range(1, len(places))):
        # the places beneath one follow it, side by side
        outer_site = sites[sites[number].around]
        outer_site.behind = max(outer_site.behind, sites[number].behind)
    return sites


def around_of(kind):
    return tuple([site.around for site in sites_of(kind)])


def with_keys(answers):
    return tuple([tuple([_with_whole_key(row) for row in rows]) for rows in answers])


def _with_whole_key(row):
    outer, own, cells = row
    return (tuple(outer), tuple(outer) + tuple(own), tuple(cells))


def id_of(thing):
    """Return an id as it is kept: a key is a tuple."""
    return tuple(thing) if is_sequence(thing) else thing


def _is_id(thing):
    if not is_sequence(thing):
        return is_integer(thing)
    return all([is_integer(number) and number >= 0 for number in thing])


def is_id_row(thing):
    """Tell whether a thing is a triple of two ids and a sequence of cells."""
    return is_sequence(thing) and len(thing) == 3 and _is_id(thing[0]) and _is_id(thing[1]) and is_sequence(thing[2])


def cells_fit(site, cells):
    """Tell whether cells are as many as the things of a site have, each of its base kind."""
    if len(cells) != len(site.bases):
        return False
    return all([_is_of_base(cell, base) for cell, base in zip(cells, site.bases)])


def _is_of_base(value, base):
    if base == "int":
        return is_integer(value)
    return isinstance(value, str) if base == "text" else isinstance(value, bool)


def ids_fault(kind, answers):
    sites = sites_of(kind)
    if not is_sequence(answers) or len(answers) != len(sites):
        return (0, -1, "many")
    known = []
    for place, site in enumerate(sites):
        rows = answers[place]
        if not is_sequence(rows):
            return (place, -1, "many")
        around = {(): True} if site.around is None else known[site.around]
        owns = {}
        for at, row in enumerate(rows):
            word = _row_fault(site, row, rows[0], owns, around)
            if word is not None:
                return (place, at, word)
            owns[id_of(row[1])] = True
        known.append(owns)
    return None


def _row_fault(site, row, first, owns, around):
    """Return the first word that applies to a row, or None; `first` is row 0 of the same place."""
    if not is_id_row(row) or is_sequence(row[1]) != is_sequence(first[1]):
        return "row"
    if not cells_fit(site, row[2]):
        return "cells"
    if id_of(row[1]) in owns:
        return "double"
    return None if id_of(row[0]) in around else "orphan"


def ask_ids(kind, answers):
    """Raise BadAnswers if id answers have a fault."""
    fault = ids_fault(kind, answers)
    if fault is not None:
        place, row, what = fault
        raise BadAnswers(place, row, what)


def _ordered_rows(rows):
    """List the rows of one place, ids as they are kept, own ids ascending."""
    kept = [(id_of(outer), id_of(own), tuple(cells)) for outer, own, cells in rows]
    return sorted(kept, key=lambda row: row[1])


def value_of_row(site, cells, lists):
    """Return the value of a row; the dict `lists` has its list for each place directly beneath."""
    rest = list(cells[::-1])
    return fold(
        (site.thing, ()),
        fields_at,
        lambda spot, parts: _value_made(spot, parts, rest, site, lists),
    )


def _value_made(spot, parts, rest, site, lists):
    kind, steps = spot
    if is_base(kind):
        return rest.pop()
    if kind[0] == "list":
        return lists[site.inner[steps]]
    return tuple([(label, part) for (label, _), part in zip(kind[1], parts)])


def _put_together(kind, answers):
    """Return (the whole value, for each place a dict from own ids to the values of the rows)."""
    ask_ids(kind, answers)
    sites = sites_of(kind)
    lists = [{} for _ in sites]
    values = [{} for _ in sites]
    for place in reversed(range(len(sites))):
        site = sites[place]
        inner = list(site.inner.values())
        for outer, own, cells in _ordered_rows(answers[place]):
            # an own id stands once at a place, so no list comes to stand twice
            mine = {at: lists[at].get(own, []) for at in inner}
            values[place][own] = value_of_row(site, cells, mine)
            lists[place].setdefault(outer, []).append(values[place][own])
    return lists[0].get((), []), values


def stitch(kind, answers):
    value, _ = _put_together(kind, answers)
    return value


def thing_at(kind, answers, place, own):
    _, values = _put_together(kind, answers)
    if not is_integer(place) or not 0 <= place < len(values):
        raise NoSuchPlace(place)
    if not _is_id(own) or id_of(own) not in values[place]:
        raise NoId(place, id_of(own))
    return values[place][id_of(own)]


def laid_out(kind, value):
    sites = sites_of(kind)
    lists = [[] for _ in sites]
    lists[0].append(((), value))
    answers = []
    for place, site in enumerate(sites):
        rows = []
        inner = list(site.inner.items())
        for outer, items in list(lists[place]):
            for at, item in enumerate(items):
                whole = outer + (at,)
                rows.append((outer, (at,), tuple([_part_at(item, path) for path in site.paths])))
                for labels, number in inner:
                    lists[number].append((whole, _part_at(item, labels)))
        answers.append(tuple(rows))
    return tuple(answers)


def _part_at(value, labels):
    for label in labels:
        value = dict(value)[label]
    return value


def paired_rows(kind, one, other):
    pairs, _ = _walked(kind, one, other)
    return pairs


def parted_rows(kind, one, other):
    _, difference = _walked(kind, one, other)
    return difference


def _walked(kind, one, other):
    """Return (the couples of own ids at each place, None), or (None, the first difference)."""
    ask_ids(kind, one)
    ask_ids(kind, other)
    pairs = []
    for place, around in enumerate(around_of(kind)):
        mine, others = _by_outer(one[place]), _by_outer(other[place])
        couples = []
        outers = [((), ())] if around is None else list(pairs[around])
        for left, right in outers:
            rows, mates = mine.get(left, []), others.get(right, [])
            difference = _first_difference(rows, mates)
            if difference is not None:
                return None, (place, *difference)
            couples.extend([(row[0], mate[0]) for row, mate in zip(rows, mates)])
        pairs.append(tuple(couples))
    return tuple(pairs), None


def _by_outer(rows):
    """Return a dict from outer ids to the (own id, cells) of their lists in order."""
    lists = {}
    for outer, own, cells in _ordered_rows(rows):
        lists.setdefault(outer, []).append((own, cells))
    return lists


def _first_difference(rows, mates):
    for at in range(max(len(rows), len(mates))):
        if at == len(mates):
            return (rows[at][0], None, "more")
        if at == len(rows):
            return (None, mates[at][0], "fewer")
        if rows[at][1] != mates[at][1]:
            return (rows[at][0], mates[at][0], "cells")
    return None
