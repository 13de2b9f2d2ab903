"""Values, their texts, and lists compared as bags."""

from listasks.walks import fold


def _is_record(value):
    return isinstance(value, tuple)


def _is_base_value(value):
    return not isinstance(value, (list, tuple))


def value_parts(value):
    """Return the values directly within a value."""
    if _is_record(value):
        return [part for _, part in value]
    return value if isinstance(value, list) else ()


def with_value_parts(value, parts):
    """Return a value of the same sort with these parts; a list is always a new one."""
    if isinstance(value, list):
        return list(parts)
    if _is_record(value):
        return tuple([(label, part) for (label, _), part in zip(value, parts)])
    return value


def _base_text(value):
    if isinstance(value, bool):
        return "true" if value else "false"
    return '"' + value + '"' if isinstance(value, str) else str(value)


def _text_made(value, texts):
    """Return the text of a value whose parts, in the order in which they are written, have these."""
    if _is_base_value(value):
        return _base_text(value)
    if isinstance(value, list):
        return "[" + ",".join(texts) + "]"
    fields = [label + "=" + text for (label, _), text in zip(value, texts)]
    return "{" + ",".join(fields) + "}"


def value_text(value):
    return fold(value, value_parts, _text_made)


def value_size(value):
    return fold(value, value_parts, lambda part, sizes: 1 if _is_base_value(part) else sum(sizes))


def _bag_made(value, bags):
    """Return (bag text, value in that order) of a value, `bags` being those of its parts."""
    ordered = sorted(bags, key=lambda bag: bag[0]) if isinstance(value, list) else bags
    text = _text_made(value, [inner for inner, _ in ordered])
    return (text, with_value_parts(value, [part for _, part in ordered]))


def bag_text(value):
    return fold(value, value_parts, _bag_made)[0]


def bag_of(value):
    return fold(value, value_parts, _bag_made)[1]


def same_bag(one, other):
    return bag_text(one) == bag_text(other)


def _tally(rows):
    """Return a dict from the bag texts of the rows to how many have it."""
    many = {}
    for row in rows:
        text = bag_text(row)
        many[text] = many.get(text, 0) + 1
    return many


def counts_of(rows):
    many = _tally(rows)
    return tuple([(text, many[text]) for text in sorted(many)])


def pairing(one, other):
    if not same_bag(one, other):
        return None
    return fold((0, one, other), _matched, _paired)[1]


def _matched(match):
    """Return the matches (position, item, item of the other) within two values of the same bag."""
    _, one, other = match
    if not isinstance(one, list):
        pairs = list(zip(value_parts(one), value_parts(other)))
        return [(at, part, mate) for at, (part, mate) in enumerate(pairs)]
    places = {}
    for at, item in enumerate(other):
        places.setdefault(bag_text(item), []).append(at)
    matches = []
    for item in one:
        at = places[bag_text(item)].pop(0)
        matches.append((at, item, other[at]))
    return matches


def _paired(match, couples):
    """Return (position, pairing) of a match whose inner ones have these couples."""
    at, one, _ = match
    if isinstance(one, list):
        return (at, tuple(couples))
    return (at, tuple([paper for _, paper in couples]))


def pairing_fits(one, other, paper):
    todo = [(one, other, paper)]
    while todo:
        left, right, sheet = todo.pop()
        inner = _sheets_within(left, right, sheet)
        if inner is None:
            return False
        todo.extend(inner)
    return True


def _sheets_within(one, other, paper):
    """Return the (item, item, paper) that must fit for the whole to fit, or None if it cannot."""
    if not isinstance(paper, tuple):
        return None
    if _is_base_value(one) and _is_base_value(other):
        return [] if paper == () and _base_text(one) == _base_text(other) else None
    if _is_record(one) and _is_record(other):
        if _labels(one) != _labels(other) or len(paper) != len(one):
            return None
        return list(zip(value_parts(one), value_parts(other), paper))
    if isinstance(one, list) and isinstance(other, list):
        return _list_sheets(one, other, paper)
    return None


def _list_sheets(one, other, paper):
    if len(one) != len(other) or len(paper) != len(one):
        return None
    taken = {}
    inner = []
    for item, couple in zip(one, paper):
        if not isinstance(couple, tuple) or len(couple) != 2:
            return None
        at, sheet = couple
        if not isinstance(at, int) or isinstance(at, bool) or not 0 <= at < len(other) or at in taken:
            return None
        taken[at] = True
        inner.append((item, other[at], sheet))
    return inner


def _labels(record):
    return [label for label, _ in record]


def parted_at(one, other):
    if same_bag(one, other):
        return None
    path = ()
    left, right = one, other
    while _is_record(left) and _is_record(right) and _labels(left) == _labels(right):
        fields = [(label, part, mate) for (label, part), (_, mate) in zip(left, right)]
        parted = [field for field in fields if not same_bag(field[1], field[2])]
        label, left, right = parted[0]
        path = path + (label,)
    if not isinstance(left, list) or not isinstance(right, list):
        return (path, bag_text(left), 1, 0)
    many, others = _tally(left), _tally(right)
    texts = sorted(set(list(many) + list(others)))
    unlike = [text for text in texts if many.get(text, 0) != others.get(text, 0)]
    return (path, unlike[0], many.get(unlike[0], 0), others.get(unlike[0], 0))
