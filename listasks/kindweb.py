"""Kinds that are found step by step: what is known of each, and what it still waits for."""

from listasks.kinds import BASE_KINDS, kind_head, kind_of_head, kind_parts
from listasks.walks import fold

_ON_THE_WAY = 1
_DONE = 2


class KindWeb:
    """Numbers that stand for kinds, open ones among them.

    Numbers that were found to be one kind are linked; the one at the end of the links is their
    chief, and what is kept of them is kept at the chief alone: its head (None if it is open), the
    numbers of the kinds directly within it, and what an open one waits for: fields, by label, or
    to be int, text or truth.
    """

    def __init__(self):
        self.links = []
        self.heads = []
        self.parts = []
        self.fields = []
        self.bases = []
        self.base_numbers = {word: self.new_kind((word, ()), ()) for word in BASE_KINDS}

    def new_open(self):
        return self.new_kind(None, ())

    def new_kind(self, head, parts):
        number = len(self.links)
        self.links.append(number)
        self.heads.append(head)
        self.parts.append(tuple(parts))
        self.fields.append({})
        self.bases.append(False)
        return number

    def base(self, word):
        return self.base_numbers[word]

    def list_of(self, number):
        return self.new_kind(("list", ()), (number,))

    def function_of(self, given, made):
        return self.new_kind(("function", ()), (given, made))

    def record_of(self, labels, numbers):
        return self.new_kind(("record", tuple(labels)), numbers)

    def copy_of(self, kind):
        """Put in a kind with new open kinds for its open places."""
        opens = {}
        return fold(kind, kind_parts, lambda part, numbers: self._copied(part, numbers, opens))

    def _copied(self, kind, numbers, opens):
        head = kind_head(kind)
        if head[0] in BASE_KINDS:
            return self.base(head[0])
        if head[0] != "any":
            return self.new_kind(head, numbers)
        if head[1] not in opens:
            opens[head[1]] = self.new_open()
        return opens[head[1]]

    def chief(self, number):
        while self.links[number] != number:
            self.links[number] = self.links[self.links[number]]
            number = self.links[number]
        return number

    def is_open(self, number):
        return self.heads[self.chief(number)] is None

    def unite(self, one, other):
        """Make two kinds one; return False if they cannot be."""
        todo = [(one, other)]
        united = []
        while todo:
            left, right = todo.pop()
            keeper, joiner = self.chief(left), self.chief(right)
            if keeper == joiner:
                continue
            if self.heads[keeper] is None:
                keeper, joiner = joiner, keeper
            pairs = self._joined(keeper, joiner)
            if pairs is None:
                return False
            united.append(keeper)
            todo.extend(pairs)
        return not self._has_loop(united)

    def _joined(self, keeper, joiner):
        """Link one chief to another; return the pairs that are to be made one by it, or None."""
        self.links[joiner] = keeper
        if self.heads[joiner] is not None:
            if self.heads[joiner] != self.heads[keeper]:
                return None
            return list(zip(self.parts[keeper], self.parts[joiner]))
        pairs = []
        for label, number in list(self.fields[joiner].items()):
            known = self._field_of(keeper, label, number)
            if known is None:
                return None
            pairs.append((known, number))
        if self.bases[joiner] and not self._wait_for_base(keeper):
            return None
        return pairs

    def _field_of(self, chief, label, number):
        """Return the number of a field; an open kind without it waits for it under this number.

        None is returned if the kind cannot have the field.
        """
        head = self.heads[chief]
        if head is None:
            if self.bases[chief]:
                return None
            return self.fields[chief].setdefault(label, number)
        if head[0] != "record" or label not in head[1]:
            return None
        return self.parts[chief][head[1].index(label)]

    def _wait_for_base(self, chief):
        if self.heads[chief] is not None:
            return self.heads[chief][0] in BASE_KINDS
        self.bases[chief] = True
        return len(self.fields[chief]) == 0

    def field_of(self, number, label):
        """Return the number of a record's field, or None if the kind can be no such record."""
        return self._field_of(self.chief(number), label, self.new_open())

    def needs_base(self, number):
        """Require that the kind is int, text or truth; return False if it cannot be."""
        return self._wait_for_base(self.chief(number))

    def _inner(self, chief):
        """Return the numbers within a kind; those of fields that an open one waits for by label."""
        if self.heads[chief] is not None:
            return self.parts[chief]
        return [self.fields[chief][label] for label in sorted(self.fields[chief])]

    def _has_loop(self, starts):
        """Tell whether a kind that can be reached from the starts lies within itself."""
        marks = {}
        todo = [(start, False) for start in starts]
        while todo:
            number, is_leaving = todo.pop()
            chief = self.chief(number)
            if is_leaving:
                marks[chief] = _DONE
            elif chief not in marks:
                marks[chief] = _ON_THE_WAY
                todo.append((chief, True))
                todo.extend([(inner, False) for inner in self._inner(chief)])
            elif marks[chief] == _ON_THE_WAY:
                return True
        return False

    def kinds_of(self, numbers, is_closed):
        """Return the kinds of the numbers in order, open places numbered as they first stand.

        If closed kinds are asked for, open ones become int, or the record of the fields they wait for.
        """
        told = {}
        opens = {}
        kinds = []
        for number in numbers:
            kinds.append(fold(
                number,
                lambda part: () if self.chief(part) in told else self._inner(self.chief(part)),
                lambda part, inner: self._told_kind(self.chief(part), inner, told, opens, is_closed),
            ))
        return kinds

    def _told_kind(self, chief, inner, told, opens, is_closed):
        """Return the kind of a chief; `told` keeps it, for it may stand in many others."""
        if chief not in told:
            if self.heads[chief] is not None:
                told[chief] = kind_of_head(self.heads[chief], inner)
            elif not is_closed:
                told[chief] = ("any", opens.setdefault(chief, len(opens)))
            elif self.fields[chief]:
                labels = tuple(sorted(self.fields[chief]))
                told[chief] = kind_of_head(("record", labels), inner)
            else:
                told[chief] = "int"
        return told[chief]
