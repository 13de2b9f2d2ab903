"""Heads, which tell the tables, and stores, which keep their rows."""

from listasks.errors import BadHeads, BadLots, BadRow, NoColumn, NoRow, NoTable
from listasks.kinds import fits_base, is_ascending, is_base, is_couple, is_integer, is_name, is_sequence

MOST_TABLES = 5
MOST_COLUMNS = 5


def check_heads(heads):
    if not is_sequence(heads) or not 1 <= len(heads) <= MOST_TABLES:
        raise BadHeads(-1, "many")
    tables = []
    for at, item in enumerate(heads):
        what = _head_fault(item, tables)
        if what is not None:
            raise BadHeads(at, what)
        tables.append(item[0])
    return tuple(sorted([(table, _ordered(columns)) for table, columns in heads]))


def _head_fault(item, tables):
    """Return the first word that applies to one item of heads behind these tables, or None."""
    if not is_couple(item) or not is_sequence(item[1]):
        return "shape"
    table, columns = item
    if not is_name(table):
        return "name"
    if not 1 <= len(columns) <= MOST_COLUMNS:
        return "columns"
    if not _columns_fit(columns):
        return "column"
    if table in tables:
        return "double"
    return None


def _columns_fit(columns):
    for column in columns:
        if not is_couple(column) or not is_name(column[0]) or not is_base(column[1]):
            return False
    return is_ascending(sorted([column for column, _ in columns]))


def _ordered(columns):
    return tuple(sorted([(column, kind) for column, kind in columns]))


def _columns_in(heads, table):
    for name, columns in heads:
        if name == table:
            return columns
    raise NoTable(table)


def columns_of(heads, table):
    # heads may be made of lists, and none that was passed may be returned
    return tuple([(column, kind) for column, kind in _columns_in(heads, table)])


def row_kind(heads, table):
    return ("record", columns_of(heads, table))


def _bad_cell(columns, cells):
    """Return where the cells do not fit the columns (-1 if nowhere in particular), or None."""
    if not is_sequence(cells) or len(cells) != len(columns):
        return -1
    for at, (_, kind) in enumerate(columns):
        if not fits_base(cells[at], kind):
            return at
    return None


def _lot_fits(columns, lot):
    if not is_couple(lot) or not is_sequence(lot[1]):
        return False
    following, rows = lot
    if not all([is_couple(row) and _bad_cell(columns, row[1]) is None for row in rows]):
        return False
    numbers = [number for number, _ in rows] + [following]
    if not all([is_integer(number) and number >= 1 for number in numbers]):
        return False
    return is_ascending(numbers)


class Store:
    """The rows of some tables; each row keeps its number as long as it stands."""

    def __init__(self, heads):
        self.heads = check_heads(heads)
        self._lots = {table: {} for table, _ in self.heads}
        self._follow = {table: 1 for table, _ in self.heads}

    def __eq__(self, other):
        return isinstance(other, Store) and self.heads == other.heads and self._lots == other._lots

    def __len__(self):
        return len([number for table, _ in self.heads for number in self._lots[table]])

    @staticmethod
    def from_rows(heads, lots):
        store = Store(heads)
        if not is_sequence(lots) or len(lots) != len(store.heads):
            raise BadLots()
        for (_, columns), lot in zip(store.heads, lots):
            if not _lot_fits(columns, lot):
                raise BadLots()
        tables = [table for table, _ in store.heads]
        for table, (following, rows) in zip(tables, lots):
            store._lots[table] = {number: tuple(cells) for number, cells in rows}
            store._follow[table] = following
        return store

    def put(self, table, cells):
        at = _bad_cell(_columns_in(self.heads, table), cells)
        if at is not None:
            raise BadRow(at)
        number = self._follow[table]
        self._lots[table][number] = tuple(cells)
        self._follow[table] = number + 1
        return number

    def take(self, table, number):
        cells = self._cells_of(table, number)
        del self._lots[table][number]
        return cells

    def _cells_of(self, table, number):
        """Return the cells of one row (NoTable, NoRow)."""
        _columns_in(self.heads, table)
        if not is_integer(number) or number not in self._lots[table]:
            raise NoRow(table, number)
        return self._lots[table][number]

    def rows_of(self, table):
        _columns_in(self.heads, table)
        return tuple(self._lots[table].items())

    def following(self, table):
        _columns_in(self.heads, table)
        return self._follow[table]

    def cell_at(self, table, number, column):
        cells = self._cells_of(table, number)
        for at, (name, _) in enumerate(_columns_in(self.heads, table)):
            if name == column:
                return cells[at]
        raise NoColumn(column)

    def copied(self):
        store = Store(self.heads)
        for table, _ in self.heads:
            store._lots[table] = dict(self._lots[table])
            store._follow[table] = self._follow[table]
        return store
