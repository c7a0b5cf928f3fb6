"""Lines of the text of a program: their words, and what is wrong with them."""

from roundheap.checks import is_name
from roundheap.errors import InvalidText

MOST_FIGURES = 31
FIGURES = "0123456789"


class Sheet:
    """The lines of a text, and the index of the next one to be read."""

    def __init__(self, text):
        self.lines = text.split("\n")
        self.at = 0


def blanks_ahead(line):
    """With how many blanks a line begins."""
    return len(line) - len(line.lstrip(" "))


def is_number(word):
    """Whether a word is a number that is not too long."""
    if not 1 <= len(word) <= MOST_FIGURES or not all([letter in FIGURES for letter in word]):
        return False
    return word == "0" or word[0] != "0"


def fits_word(kind, word):
    """Whether a word is a name, a number, or the target of a call."""
    if kind == "number":
        return is_number(word)
    return is_name(word) or kind == "target" and word == "-"


def check_words(at, words, first, kinds):
    """Raise for the first invalid word of a line, from an index on: there must be one of each kind, and no other."""
    check_first(at, words, first, kinds)
    if len(words) > first + len(kinds):
        raise InvalidText(at, first + len(kinds))


def check_first(at, words, first, kinds):
    """Raise for the first word, from an index on, that is not of its kind, or missing; others may follow."""
    for offset, kind in enumerate(kinds):
        if first + offset == len(words) or not fits_word(kind, words[first + offset]):
            raise InvalidText(at, first + offset)


def check_rest(at, words, first, kind):
    """Raise for the first word from an index on that is not of a kind."""
    for index in range(first, len(words)):
        if not fits_word(kind, words[index]):
            raise InvalidText(at, index)


def next_heading(sheet, firsts):
    """The words of the next line, which has no blanks ahead and begins with one of some words; it is not passed."""
    if sheet.at == len(sheet.lines):
        raise InvalidText(sheet.at, 0)
    line = sheet.lines[sheet.at]
    if blanks_ahead(line) > 0:
        raise InvalidText(sheet.at, -1)
    words = line.split(" ")
    if words[0] not in firsts:
        raise InvalidText(sheet.at, 0)
    return words
