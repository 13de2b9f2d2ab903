"""Numbers in the place of whole keys."""

from listasks.errors import BadNumbers
from listasks.kinds import is_integer
from listasks.stitching import around_of, ask_ids, with_keys


def _in_order(rows):
    """List rows (outer key, whole key, cells) by ascending whole key."""
    return sorted(rows, key=lambda row: row[1])


def numbering_fault(kind, answers, numbering):
    for place, rows in enumerate(with_keys(answers)):
        taken = {}
        newest = {}
        for outer, whole, _ in _in_order(rows):
            word = _number_fault(numbering, (place, whole), taken, newest.get(outer))
            if word is not None:
                return (place, whole, word)
            number = numbering[(place, whole)]
            taken[number] = True
            newest[outer] = number
    return None


def _number_fault(numbering, entry, taken, newest):
    """Return the first word that applies to the number of one row, or None.

    The numbers of the rows before it are taken; the newest is that of the row before it in its list.
    """
    if entry not in numbering:
        return "missing"
    number = numbering[entry]
    if not is_integer(number):
        return "number"
    if number in taken:
        return "double"
    return "order" if newest is not None and number < newest else None


def even_numbers(kind, answers, *, first=1, step=1):
    numbers = {}
    for place, rows in enumerate(with_keys(answers)):
        for at, (_, whole, _) in enumerate(_in_order(rows)):
            numbers[(place, whole)] = first + at * step
    return numbers


def numbered_answers(kind, answers, numbering):
    keyed = with_keys(answers)
    ask_ids(kind, keyed)
    fault = numbering_fault(kind, answers, numbering)
    if fault is not None:
        place, key, what = fault
        raise BadNumbers(place, key, what)
    lots = []
    for place, (rows, around) in enumerate(zip(keyed, around_of(kind))):
        lot = []
        for outer, whole, cells in rows:
            outer_id = () if around is None else numbering[(around, outer)]
            lot.append((outer_id, numbering[(place, whole)], cells))
        lots.append(tuple(_in_order(lot)))
    return tuple(lots)
