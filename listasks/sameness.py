"""Whether two plain programs tell the same bag on every store, and a store that parts them if not."""

from listasks.errors import NotAlike
from listasks.folds import count_maps, weighed_images
from listasks.kinds import same_kind
from listasks.pieces import constants_of, is_unknown, pair_off, pieces_of
from listasks.stores import Store, columns_of

_LEAST_FRESH = 1000


class Parting:
    """A store on which two programs show values unlike often, the values, and how often each shows them."""

    def __init__(self, store, shown, one_count, other_count):
        self.store = store
        self.shown = shown
        self.one_count = one_count
        self.other_count = other_count

    def __eq__(self, other):
        return (isinstance(other, Parting) and self.store == other.store and self.shown == other.shown
                and self.one_count == other.one_count and self.other_count == other.other_count)


def balance_of(one, other):
    mine = [(piece, 1) for piece in one]
    others = [(piece, -1) for piece in other]
    images = weighed_images(mine + others, constants_of([*one, *other]))
    return tuple([(image, number) for image, number in images if number != 0])


def fresh_values(piece, constants):
    taken = [value for _, value in constants]
    values = []
    for kind in piece.kinds:
        value = _fresh_value(kind, taken + values)
        values.append(value)
    return tuple(values)


def _fresh_value(kind, taken):
    if kind == "text":
        number = 1
        while f"w{number}" in taken:
            number += 1
        return f"w{number}"
    number = _LEAST_FRESH
    while number in taken:
        number += 1
    return number


def parting_store(piece, constants, heads):
    fresh = fresh_values(piece, constants)
    store = Store(heads)
    for table, worths in piece.rows:
        store.put(table, _cells_of(columns_of(store.heads, table), _values_of(worths, fresh)))
    return store, tuple(_values_of(piece.shown, fresh))


def _values_of(worths, fresh):
    return [fresh[worth[1]] if is_unknown(worth) else worth[1] for worth in worths]


def _cells_of(columns, values):
    """Return the cells of a row with these values in its int and text columns."""
    rest = values[::-1]
    return tuple([False if kind == "truth" else rest.pop() for _, kind in columns])


def _pieces_of_both(one, other):
    if one.heads != other.heads or not same_kind(one.kind, other.kind):
        raise NotAlike()
    return pieces_of(one), pieces_of(other)


def pairs_of(one, other):
    mine, others = _pieces_of_both(one, other)
    return pair_off(mine, others)


def are_alike(one, other):
    return pairs_of(one, other) is not None


def parting_of(one, other):
    mine, others = _pieces_of_both(one, other)
    # pieces that pair off have an empty balance, and the foldings need not be walked
    if pair_off(mine, others) is not None:
        return None
    image, _ = balance_of(mine, others)[0]
    store, shown = parting_store(image, constants_of(mine + others), one.heads)
    counts = [sum([count_maps(piece, store, shown) for piece in pieces]) for pieces in (mine, others)]
    return Parting(store, shown, counts[0], counts[1])
