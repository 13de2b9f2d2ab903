"""Answers told by another way: by functions that call themselves; and answers and values made by chance."""

from tests.flatref import bases_in, lists_in


def sites(kind, place=()):
    """The (place, kind of the things, place around) of all places in order."""
    found = [(place, kind[1])]
    for labels, inner in lists_in(kind[1]):
        found += sites(inner, place + ("*",) + labels)
    return found


def arounds(kind):
    """The number of the place around for each place."""
    places = [place for place, _ in sites(kind)]
    numbers = []
    for place in places:
        outer = [at for at, other in enumerate(places) if len(other) < len(place) and place[:len(other)] == other]
        numbers.append(max(outer, key=lambda at: len(places[at])) if outer else None)
    return tuple(numbers)


def kept_id(thing):
    return tuple(thing) if isinstance(thing, (list, tuple)) else thing


def whole_value(kind, answers):
    """The value that id answers without fault tell."""
    found = {place: [(kept_id(outer), kept_id(own), cells) for outer, own, cells in rows]
             for (place, _), rows in zip(sites(kind), answers)}

    def list_at(inner, place, outer):
        mine = sorted((own, cells) for other, own, cells in found[place] if other == outer)
        return [value_at(inner[1], place + ("*",), list(cells), own) for own, cells in mine]

    def value_at(inner, place, rest, own):
        if isinstance(inner, str):
            return rest.pop(0)
        if inner[0] == "list":
            return list_at(inner, place, own)
        return tuple((label, value_at(part, place + (label,), rest, own)) for label, part in inner[1])

    return list_at(kind, (), ())


def any_value(chance, kind, most=3):
    if kind == "int":
        return chance.choice((0, 1, -1, 5, 10 ** 31))
    if kind == "text":
        return chance.choice(("a", "b", "", "a long text, and % and \"", "1"))
    if kind == "truth":
        return chance.random() < 0.5
    if kind[0] == "list":
        return [any_value(chance, kind[1], most) for _ in range(chance.randrange(most + 1))]
    return tuple((label, any_value(chance, part, most)) for label, part in kind[1])


def laid(kind, value):
    """The rows (outer key, own key, cells) of a value, place by place, in the order of the value."""
    lots = {place: [] for place, _ in sites(kind)}

    def lay_list(inner, place, outer, items):
        for at, item in enumerate(items):
            lots[place].append((outer, (at,), tuple(part_at(item, labels) for labels in bases_in(inner[1]))))
            for labels, within in lists_in(inner[1]):
                lay_list(within, place + ("*",) + labels, outer + (at,), part_at(item, labels))

    lay_list(kind, (), (), value)
    return tuple(tuple(lots[place]) for place, _ in sites(kind))


def part_at(value, labels):
    for label in labels:
        value = dict(value)[label]
    return value


def any_ids(chance, kind, value):
    """Id answers of a value: at each place numbers or keys, in any order, made of lists or of tuples."""
    answers = []
    named = [{(): ()}]
    for rows, around in zip(laid(kind, value), arounds(kind)):
        ids = ids_in_order(chance, len(rows))
        order = list(range(len(rows)))
        # only the order within one list counts, so lists are mixed
        lists = {}
        for outer, own, _ in rows:
            lists.setdefault(outer, []).append(outer + own)
        left = [wholes for wholes in lists.values()]
        given = {}
        for at in order:
            wholes = chance.choice([lot for lot in left if lot])
            given[wholes.pop(0)] = ids[at]
        outers = named[0] if around is None else named[around + 1]
        lot = [(outers[outer], given[outer + own], cells) for outer, own, cells in rows]
        chance.shuffle(lot)
        answers.append([any_sequence(chance, [any_key(chance, outer), any_key(chance, own), any_sequence(chance, cells)])
                        for outer, own, cells in lot])
        named.append(given)
    return answers


def ids_in_order(chance, count):
    if chance.random() < 0.5:
        return sorted(chance.sample(range(-500, 500), count))
    keys = set()
    while len(keys) < count:
        keys.add(tuple(chance.randrange(4) for _ in range(chance.randrange(6))))
    return sorted(keys)


def any_key(chance, thing):
    return any_sequence(chance, thing) if isinstance(thing, tuple) else thing


def any_sequence(chance, things):
    return list(things) if chance.random() < 0.5 else tuple(things)
