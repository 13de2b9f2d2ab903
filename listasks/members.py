"""Flat questions and their members."""


class Member:
    """One way to come to rows: tables, tests, the items of the outer and the own key, and cells."""

    def __init__(self, tables, tests, outer, own, cells):
        self.tables = tables
        self.tests = tests
        self.outer = outer
        self.own = own
        self.cells = cells

    def __eq__(self, other):
        return (isinstance(other, Member) and self.tables == other.tables and self.tests == other.tests
                and self.outer == other.outer and self.own == other.own and self.cells == other.cells)

    @property
    def whole(self):
        return self.outer + self.own


class FlatQuestion:
    """The members that together tell the rows of one place of a kind."""

    def __init__(self, place, members):
        self.place = place
        self.members = members

    def __eq__(self, other):
        return isinstance(other, FlatQuestion) and self.place == other.place and self.members == other.members

    def __iter__(self):
        return iter(self.members)


def has_all_rows(member):
    """Tell whether the row items of `whole` are those of rows 0, 1, .. in order, one for each table."""
    rows = [item for item in member.whole if item[0] == "row"]
    return rows == [("row", k) for k in range(len(member.tables))]
