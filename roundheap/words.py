"""Words: rows of entries of a log, of any length."""

from roundheap.agreement import agreed
from roundheap.checks import is_count, is_integer, is_name, is_within, is_word
from roundheap.errors import InvalidArgument, InvalidNumber, LimitExceeded
from roundheap.rows import cut_row, entry_at, has_entry, joined, leaf_row, listed, repeated

DEEPEST = 6
MOST_PIECES = 1000
MOST_LISTED = 1000


class Making:
    """What the package itself makes a word of: its row, its depth and its pieces."""

    def __init__(self, content, depth, pieces):
        self.content = content
        self.depth = depth
        self.pieces = pieces


def is_pair(value):
    """Whether a value is a tuple of two, a string and a string or None: such a one can be a key."""
    if not isinstance(value, tuple) or len(value) != 2 or not isinstance(value[0], str):
        return False
    return value[1] is None or isinstance(value[1], str)


def is_entry(value):
    if not is_pair(value):
        return False
    word, tag = value
    if tag is None:
        return is_word(word, "emit")
    return (is_word(word, "emit") or is_word(word, "final")) and is_name(tag)


def are_entries(value):
    if not isinstance(value, list):
        return False
    # Long lists have few different entries: each is looked at closely once.
    seen = {}
    for entry in value:
        if not is_pair(entry):
            return False
        if entry not in seen:
            if not is_entry(entry):
                return False
            seen[entry] = True
    return True


def making_of(entries):
    if not are_entries(entries):
        raise InvalidArgument("entries")
    return Making(leaf_row(entries), 0, 1)


def check_index(number, least, most):
    if not is_within(number, least, most):
        raise InvalidNumber(number)


class Word:
    """A row of entries; it never changes."""

    def __init__(self, entries):
        making = entries if isinstance(entries, Making) else making_of(entries)
        self._row = making.content
        self._depth = making.depth
        self._pieces = making.pieces

    def length(self):
        return self._row.extent

    def cut(self, first, last):
        check_index(first, 0, self._row.extent)
        check_index(last, first, self._row.extent)
        return Word(Making(cut_row(self._row, first, last), self._depth, self._pieces))

    def entries(self, first, last):
        check_index(first, 0, self._row.extent)
        check_index(last, first, min(self._row.extent, first + MOST_LISTED))
        return listed(self._row, first, last)

    def __add__(self, other):
        if not isinstance(other, Word):
            return NotImplemented
        pieces = self._pieces + other._pieces
        if pieces > MOST_PIECES:
            raise LimitExceeded(MOST_PIECES)
        return Word(Making(joined(self._row, other._row), max(self._depth, other._depth), pieces))

    def __mul__(self, other):
        if not is_count(other):
            raise InvalidNumber(other)
        if self._depth == DEEPEST:
            raise LimitExceeded(DEEPEST)
        return Word(Making(repeated(self._row, other), self._depth + 1, self._pieces))

    def __getitem__(self, at):
        if not is_within(at, 0, self._row.extent - 1):
            raise InvalidNumber(at)
        return entry_at(self._row, at)

    def __iter__(self):
        raise TypeError("a word is not iterable")

    def __bool__(self):
        return bool(self._row.extent > 0)

    def __contains__(self, x):
        return is_entry(x) and has_entry(self._row, x)

    def __eq__(self, other):
        return isinstance(other, Word) and are_same(self._row, other._row)


def are_same(one, other):
    return one.extent == other.extent and agreed(one, 0, other, 0, one.extent) == one.extent


def agreeing(one, first, other, second):
    """How many entries of one from first on are those of other from second on."""
    check_index(first, 0, one.length())
    check_index(second, 0, other.length())
    many = min(one.length() - first, other.length() - second)
    return agreed(one._row, first, other._row, second, many)


def first_difference(one, other):
    """The least index at which two words differ, or only one of them has an entry; None if they are equal."""
    same = agreeing(one, 0, other, 0)
    if same == one.length() and same == other.length():
        return None
    return same


def has_period(word, period):
    """Whether each entry of a word is the one so much further on, wherever both exist."""
    if not is_integer(period) or period < 1:
        raise InvalidNumber(period)
    if period >= word.length():
        return True
    return agreeing(word, 0, word, period) == word.length() - period
