"""The errors that the functions of this package raise."""


class AskError(ValueError):
    """What all errors of this package have in common."""


class BadKind(AskError):
    """A thing is no kind, or one nested too deep."""


class NoPlace(AskError):
    """The steps do not lead on within a kind."""

    def __init__(self, steps):
        self.steps = steps


class NoPath(AskError):
    """The path leads to no child of a term."""

    def __init__(self, path):
        self.path = path


class BadTerm(AskError):
    """The node at the path is no good term."""

    def __init__(self, path, what):
        self.path = path
        self.what = what


class BadHeads(AskError):
    """The item of the heads is no good table."""

    def __init__(self, at, what):
        self.at = at
        self.what = what


class NoTable(AskError):
    """The heads have no such table."""

    def __init__(self, table):
        self.table = table


class NoRow(AskError):
    """The table has no row of this number."""

    def __init__(self, table, number):
        self.table = table
        self.number = number


class NoColumn(AskError):
    """The table has no such column."""

    def __init__(self, column):
        self.column = column


class BadRow(AskError):
    """The cells of a new row do not fit its table."""

    def __init__(self, at):
        self.at = at


class BadLots(AskError):
    """The rows given for a whole store do not fit its heads."""


class BadText(AskError):
    """The text stops being the spelling of a form at this place."""

    def __init__(self, place):
        self.place = place


class BadForm(AskError):
    """A form has not the shape of what it is read as."""

    def __init__(self, what):
        self.what = what


class BadChoices(AskError):
    """There is no choice for the open place of this number."""

    def __init__(self, number):
        self.number = number


class BadProgram(AskError):
    """The definitions of a program are not let by."""

    def __init__(self, what):
        self.what = what


class Unknown(AskError):
    """A name or table in a term has no meaning."""

    def __init__(self, at, path, name):
        self.at = at
        self.path = path
        self.name = name


class Misfit(AskError):
    """The kinds at a node cannot hold together."""

    def __init__(self, at, path):
        self.at = at
        self.path = path


class Unclear(AskError):
    """A field or an equal is left with an open kind."""

    def __init__(self, at, path):
        self.at = at
        self.path = path


class NoAnswer(AskError):
    """The kind of an asking is no answer kind."""


class BadChain(AskError):
    """A step of a chain is bad."""

    def __init__(self, at, word):
        self.at = at
        self.word = word


class BadCell(AskError):
    """A cell does not fit where it stands."""

    def __init__(self, cell):
        self.cell = cell


class NoFit(AskError):
    """A tree does not fit a kind."""


class BadFamily(AskError):
    """Questions are not those of any tree."""

    def __init__(self, place, member, what):
        self.place = place
        self.member = member
        self.what = what


class TooWide(AskError):
    """A member has too many rows or tests to list all its plans."""

    def __init__(self, what):
        self.what = what


class BadChange(AskError):
    """A change cannot be made to a plan."""

    def __init__(self, word):
        self.word = word


class BadPlan(AskError):
    """A plan is not good."""

    def __init__(self, at, word):
        self.at = at
        self.word = word


class BadPlans(AskError):
    """The plans for a question are not good."""

    def __init__(self, number, at, word):
        self.number = number
        self.at = at
        self.word = word


class BadAnswers(AskError):
    """Answers are not well put together."""

    def __init__(self, place, row, what):
        self.place = place
        self.row = row
        self.what = what


class NoSuchPlace(AskError):
    """There is no place of this number."""

    def __init__(self, place):
        self.place = place


class NoId(AskError):
    """No row at the place has this id."""

    def __init__(self, place, own):
        self.place = place
        self.own = own


class BadPush(AskError):
    """A row cannot be pushed now."""

    def __init__(self, place, what):
        self.place = place
        self.what = what


class BadNumbers(AskError):
    """A numbering does not fit its answers."""

    def __init__(self, place, key, what):
        self.place = place
        self.key = key
        self.what = what


class BadKey(AskError):
    """The keys of a row fit no member."""


class NoKey(AskError):
    """No row of the place has this key."""

    def __init__(self, place, key):
        self.place = place
        self.key = key


class NotPlain(AskError):
    """A program is not plain."""

    def __init__(self, member, what):
        self.member = member
        self.what = what


class NotAlike(AskError):
    """Two programs have other heads or kinds."""


class BadFolding(AskError):
    """A folding does not fit its piece."""

    def __init__(self, what):
        self.what = what


class BadDeed(AskError):
    """A thing is no deed."""

    def __init__(self, what):
        self.what = what


class Known(AskError):
    """The name is taken already."""

    def __init__(self, name):
        self.name = name


class NoKept(AskError):
    """No kept answer has this name."""

    def __init__(self, name):
        self.name = name


class Refused(AskError):
    """A deed of a story was refused."""

    def __init__(self, at):
        self.at = at
