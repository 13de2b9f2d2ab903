"""What the members of plain programs say, their renamings, and one spelling for all that say the same."""

from listasks.compiling import questions_of
from listasks.errors import NotPlain
from listasks.kinds import is_integer
from listasks.stores import columns_of

MOST_ROWS = 4
_VALUE_KINDS = ("int", "text")
_CONSTANTS = ("number", "text")


class Piece:
    """Rows of tables with worths for their int and text columns, the kinds of the unknowns, and worths shown."""

    def __init__(self, rows, kinds, shown):
        self.rows = rows
        self.kinds = kinds
        self.shown = shown

    def __eq__(self, other):
        return (isinstance(other, Piece) and self.rows == other.rows and self.kinds == other.kinds
                and self.shown == other.shown)


def value_columns(heads, table):
    """List the (column, kind) of a table's int and text columns."""
    return [(column, kind) for column, kind in columns_of(heads, table) if kind in _VALUE_KINDS]


def is_unknown(worth):
    return worth[0] == "unknown"


def _is_plain_kind(kind):
    """Tell whether a list kind is that of a plain program."""
    thing = kind[1]
    if thing[0] != "record":
        return thing in _VALUE_KINDS
    return all([part in _VALUE_KINDS for _, part in thing[1]])


def _is_plain_cell(cell, tables, heads):
    if cell[0] != "column":
        return cell[0] in _CONSTANTS
    _, row, column = cell
    return column in [name for name, _ in value_columns(heads, tables[row])]


def _is_plain_test(test, tables, heads):
    return test[0] == "equal" and all([_is_plain_cell(side, tables, heads) for side in test[1:]])


def _member_fault(member, heads):
    """Return the first word that tells why a member is not that of a plain program, or None."""
    if len(member.tables) > MOST_ROWS:
        return "rows"
    if not all([_is_plain_test(test, member.tables, heads) for test in member.tests]):
        return "test"
    if not all([_is_plain_cell(cell, member.tables, heads) for cell in member.cells]):
        return "cell"
    return None


def pieces_of(program):
    if not _is_plain_kind(program.kind):
        raise NotPlain(-1, "kind")
    members = questions_of(program)[0].members
    for number, member in enumerate(members):
        what = _member_fault(member, program.heads)
        if what is not None:
            raise NotPlain(number, what)
    pieces = [piece_of(member, program.heads) for member in members]
    return tuple([piece for piece in pieces if piece is not None])


def piece_of(member, heads):
    chiefs = {}
    for _, one, other in member.tests:
        if not _join(chiefs, one, other):
            return None
    worths = {}
    kinds = []
    rows = []
    for row, table in enumerate(member.tables):
        found = []
        for column, kind in value_columns(heads, table):
            chief = _chief(chiefs, ("column", row, column))
            if chief[0] == "column" and chief not in worths:
                worths[chief] = ("unknown", len(kinds))
                kinds.append(kind)
            found.append(worths.get(chief, chief))
        rows.append((table, tuple(found)))
    shown = [_chief(chiefs, cell) for cell in member.cells]
    return Piece(tuple(rows), tuple(kinds), tuple([worths.get(chief, chief) for chief in shown]))


def _chief(chiefs, cell):
    """Return the one column or constant that speaks for all of a group."""
    chief = cell
    while chief in chiefs:
        chief = chiefs[chief]
    return chief


def _join(chiefs, one, other):
    """Join two groups, of which a constant is the chief if there is one; tell whether they can be joined."""
    left, right = _chief(chiefs, one), _chief(chiefs, other)
    if left == right:
        return True
    if left[0] == "column":
        chiefs[left] = right
        return True
    if right[0] == "column":
        chiefs[right] = left
        return True
    return False


def constants_of(pieces):
    found = set()
    for piece in pieces:
        for said in [worths for _, worths in piece.rows] + [piece.shown]:
            for worth in said:
                if not is_unknown(worth):
                    found.add(worth)
    return tuple(sorted(found))


def renaming_fault(one, other, places):
    if not len(one.rows) == len(other.rows) == len(places) or not all([is_integer(place) for place in places]):
        return "rows"
    if sorted(places) != list(range(len(places))):
        return "rows"
    pairs = [(row, other.rows[place]) for row, place in zip(one.rows, places)]
    if not all([row[0] == mate[0] for row, mate in pairs]):
        return "table"
    there = _unknowns_map(pairs)
    if there is None:
        return "worth"
    return None if tuple([there.get(worth, worth) for worth in one.shown]) == other.shown else "shown"


def _unknowns_map(pairs):
    """Return the one-to-one map of unknowns that makes the worths of each row those of its mate, or None."""
    there = {}
    back = {}
    for (_, worths), (_, mates) in pairs:
        if len(worths) != len(mates):
            return None
        for worth, mate in zip(worths, mates):
            if not is_unknown(worth) or not is_unknown(mate):
                if worth != mate:
                    return None
            elif there.setdefault(worth, mate) != mate or back.setdefault(mate, worth) != worth:
                return None
    return there


def renamings_of(one, other):
    todo = [()] if len(one.rows) == len(other.rows) else []
    while todo:
        places = todo.pop()
        left = [place for place in range(len(other.rows)) if place not in places]
        if not left and renaming_fault(one, other, places) is None:
            yield places
        for place in reversed(left):
            if _can_begin(one, other, places + (place,)):
                todo.append(places + (place,))


def _can_begin(one, other, places):
    """Tell whether the first rows can be renamed to those at the places."""
    pairs = [(row, other.rows[place]) for row, place in zip(one.rows, places)]
    return all([row[0] == mate[0] for row, mate in pairs]) and _unknowns_map(pairs) is not None


def renaming_of(one, other):
    for places in renamings_of(one, other):
        return places
    return None


def pair_off(one, other):
    if len(one) != len(other):
        return None
    numbers = []
    for piece in one:
        number = _first_mate(piece, other, numbers)
        if number is None:
            return None
        numbers.append(number)
    return tuple(numbers)


def _first_mate(piece, others, given):
    """Return the least number not given yet of a piece to which this one has a renaming, or None."""
    for number, mate in enumerate(others):
        if number not in given and renaming_of(piece, mate) is not None:
            return number
    return None


def least_spelling(piece):
    orders = [()]
    for _ in piece.rows:
        longer = [order + (row,) for order in orders for row in _rows_left(piece, order)]
        least = min([_in_order(piece, order).rows for order in longer])
        orders = [order for order in longer if _in_order(piece, order).rows == least]
    return min([_in_order(piece, order) for order in orders], key=_spelling)


def _rows_left(piece, order):
    """List the rows that are not in the order; of equal ones the first, for all of them go on alike."""
    left = [row for row in range(len(piece.rows)) if row not in order]
    firsts = {}
    for row in left:
        firsts.setdefault(piece.rows[row], row)
    return list(firsts.values())


def _spelling(piece):
    return (piece.rows, piece.shown)


def _in_order(piece, order):
    """Return the piece with these of its rows in this order, its unknowns numbered anew."""
    names = {}
    kinds = []
    rows = []
    for row in order:
        table, worths = piece.rows[row]
        for worth in worths:
            if is_unknown(worth) and worth not in names:
                names[worth] = ("unknown", len(kinds))
                kinds.append(piece.kinds[worth[1]])
        rows.append((table, tuple([names.get(worth, worth) for worth in worths])))
    return Piece(tuple(rows), tuple(kinds), tuple([names.get(worth, worth) for worth in piece.shown]))


def standard_asking(program):
    least = sorted([_spelling(least_spelling(piece)) for piece in pieces_of(program)])
    terms = [_term_of(program, rows, shown) for rows, shown in least]
    if not terms:
        return ("as", ("none",), program.kind)
    asking = terms.pop()
    for term in reversed(terms):
        asking = ("join", term, asking)
    return asking


def _term_of(program, rows, shown):
    """Return the term that a piece with these rows and worths shown is spelled as."""
    stood = {}
    tests = []
    for at, (table, worths) in enumerate(rows):
        for (column, _), worth in zip(value_columns(program.heads, table), worths):
            term = ("field", ("name", f"r{at}"), column)
            if is_unknown(worth) and worth not in stood:
                stood[worth] = term
            else:
                tests.append(("equal", term, stood.get(worth, worth)))
    asking = ("one", _thing_of(program.kind[1], [stood.get(worth, worth) for worth in shown]))
    for test in reversed(tests):
        asking = ("where", test, asking)
    for at in reversed(range(len(rows))):
        asking = ("for", f"r{at}", ("table", rows[at][0]), asking)
    return asking


def _thing_of(kind, terms):
    if kind[0] != "record":
        return terms[0]
    return ("record", tuple([(label, term) for (label, _), term in zip(kind[1], terms)]))
