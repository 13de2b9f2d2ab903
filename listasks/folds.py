"""Maps of pieces into stores, and foldings, by which maps are counted one sort after the other."""

from listasks.errors import BadFolding
from listasks.kinds import is_couple, is_integer, is_sequence
from listasks.pieces import Piece, is_unknown, least_spelling
from listasks.stores import columns_of

_CONSTANTS = {"int": "number", "text": "text"}


def _valued_rows(store, table):
    """List (number, cells of the int and text columns) of the rows of a table."""
    kinds = [kind for _, kind in columns_of(store.heads, table)]
    rows = store.rows_of(table)
    return [(number, [cell for cell, kind in zip(cells, kinds) if kind in _CONSTANTS]) for number, cells in rows]


def _met(worths, cells, values):
    """Return the values of unknowns with those that make the worths the cells, or None if none do."""
    met = {number: values[number] for number in values}
    for (word, said), cell in zip(worths, cells):
        due = met.setdefault(said, cell) if word == "unknown" else said
        if due != cell:
            return None
    return met


def _valued_maps(piece, store):
    """Yield (row numbers, dict from the unknowns' numbers to their values) for all maps, ascending."""
    lots = [_valued_rows(store, table) for table, _ in piece.rows]
    todo = [((), {})]
    while todo:
        numbers, values = todo.pop()
        at = len(numbers)
        if at == len(piece.rows):
            yield (numbers, values)
            continue
        for number, cells in reversed(lots[at]):
            met = _met(piece.rows[at][1], cells, values)
            if met is not None:
                todo.append((numbers + (number,), met))


def maps_into(piece, store):
    for numbers, _ in _valued_maps(piece, store):
        yield numbers


def shown_by(piece, store, numbers):
    values = {}
    for (table, worths), number in zip(piece.rows, numbers):
        values = _met(worths, dict(_valued_rows(store, table))[number], values)
    return _shown(piece, values)


def _shown(piece, values):
    return tuple([values[said] if word == "unknown" else said for word, said in piece.shown])


def count_maps(piece, store, shown):
    due = tuple(shown)
    return len([0 for _, values in _valued_maps(piece, store) if _shown(piece, values) == due])


def tally_of(pieces, store):
    counts = {}
    for piece in pieces:
        for _, values in _valued_maps(piece, store):
            shown = _shown(piece, values)
            counts[shown] = counts.get(shown, 0) + 1
    return tuple([(shown, counts[shown]) for shown in sorted(counts)])


def _blocks_of(piece):
    """List all ways to put the rows into blocks of rows of one table, ascending."""
    ways = [()]
    for at in range(len(piece.rows)):
        ways = [way + (block,) for way in ways for block in range(max(way, default=-1) + 2)
                if block not in way or piece.rows[way.index(block)][0] == piece.rows[at][0]]
    return ways


def _paired_worths(piece, row_to):
    """List the couples of worths that the blocks ask to be one."""
    pairs = []
    for (_, worths), block in zip(piece.rows, row_to):
        pairs.extend(list(zip(worths, piece.rows[row_to.index(block)][1])))
    return pairs


def _entries_for(piece, constants, ahead):
    """List the entries that the next unknown may have behind those of the unknowns ahead."""
    kind = piece.kinds[len(ahead)]
    own = [constant for constant in constants if constant[0] == _CONSTANTS[kind]]
    kinds = _entry_kinds(piece, ahead)
    old = [("unknown", number) for number in range(len(kinds)) if kinds[number] == kind]
    return own + old + [("unknown", len(kinds))]


def _entry_kinds(piece, entries):
    """List the kinds of the unknowns among the entries, by their numbers."""
    kinds = {}
    for entry, kind in zip(entries, piece.kinds):
        if is_unknown(entry):
            kinds.setdefault(entry[1], kind)
    return [kinds[number] for number in sorted(kinds)]


def _replaced(worth, entries):
    return entries[worth[1]] if is_unknown(worth) else worth


def _last_unknown(pair):
    """Return the greater number of the unknowns in a couple of worths, -1 if none is in it."""
    return max([said for word, said in pair if word == "unknown"], default=-1)


def foldings_of(piece, constants):
    for row_to in _blocks_of(piece):
        pairs = _paired_worths(piece, row_to)
        ways = [()] if all([one == other for one, other in pairs if _last_unknown((one, other)) == -1]) else []
        for number in range(len(piece.kinds)):
            due = [pair for pair in pairs if _last_unknown(pair) == number]
            longer = [way + (entry,) for way in ways for entry in _entries_for(piece, constants, way)]
            ways = [way for way in longer if _are_one(due, way)]
        for worth_to in ways:
            yield (row_to, worth_to)


def _are_one(pairs, entries):
    return all([_replaced(one, entries) == _replaced(other, entries) for one, other in pairs])


def folding_fault(piece, constants, folding):
    if not is_couple(folding) or not is_sequence(folding[0]) or not is_sequence(folding[1]):
        return "shape"
    row_to, worth_to = folding
    if len(row_to) != len(piece.rows) or len(worth_to) != len(piece.kinds):
        return "shape"
    if not _is_numbered(row_to):
        return "rows"
    for at, entry in enumerate(worth_to):
        # True is equal to 1 and yet no whole number
        if entry not in _entries_for(piece, constants, worth_to[:at]) or isinstance(entry[1], bool):
            return "worths"
    firsts = [piece.rows[row_to.index(block)][0] for block in row_to]
    if firsts != [table for table, _ in piece.rows] or not _are_one(_paired_worths(piece, row_to), worth_to):
        return "block"
    return None


def _is_numbered(blocks):
    """Tell whether blocks are numbered from 0 by their first rows."""
    count = 0
    for block in blocks:
        if not is_integer(block) or not 0 <= block <= count:
            return False
        count = max(count, block + 1)
    return True


def folded(piece, constants, folding):
    fault = folding_fault(piece, constants, folding)
    if fault is not None:
        raise BadFolding(fault)
    row_to, worth_to = folding
    return _image(piece, tuple(row_to), tuple(worth_to))


def _image(piece, row_to, worth_to):
    firsts = [row_to.index(block) for block in range(max(row_to, default=-1) + 1)]
    rows = [(piece.rows[at][0], tuple([_replaced(worth, worth_to) for worth in piece.rows[at][1]])) for at in firsts]
    shown = tuple([_replaced(worth, worth_to) for worth in piece.shown])
    return Piece(tuple(rows), tuple(_entry_kinds(piece, worth_to)), shown)


def images_of(pieces, constants):
    return weighed_images([(piece, 1) for piece in pieces], constants)


def weighed_images(weighed, constants):
    """Return the images of pieces given as (piece, weight), each with the sum of its foldings' weights."""
    firsts = {}
    sums = {}
    for piece, weight in weighed:
        for row_to, worth_to in foldings_of(piece, constants):
            image = _image(piece, row_to, worth_to)
            least = least_spelling(image)
            spelling = (least.rows, least.shown)
            firsts.setdefault(spelling, image)
            sums[spelling] = sums.get(spelling, 0) + weight
    found = [(firsts[spelling], sums[spelling]) for spelling in firsts]
    return tuple(sorted(found, key=lambda entry: (len(entry[0].rows), len(entry[0].kinds))))


def count_laid(piece, constants, store, shown):
    due = tuple(shown)
    return len([0 for numbers, values in _valued_maps(piece, store)
                if _shown(piece, values) == due and _is_laying(piece, constants, numbers, values)])


def _is_laying(piece, constants, numbers, values):
    met = list(values.values())
    places = [(table, number) for (table, _), number in zip(piece.rows, numbers)]
    if len(set(places)) < len(places) or len(set(met)) < len(met):
        return False
    taken = [value for _, value in constants]
    return not any([value in taken for value in met])
