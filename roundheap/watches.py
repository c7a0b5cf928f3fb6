"""Watches: automata that go along words, and rows of entries that stand in them."""

from roundheap.automata import Question, along, visit_in, ways_for
from roundheap.checks import is_count, is_within
from roundheap.errors import InvalidArgument, InvalidNumber
from roundheap.rows import cut_row
from roundheap.words import is_entry

MOST_IN_ROW = 8
MOST_STATES = 12


def check_row(row):
    if not isinstance(row, list) or not 1 <= len(row) <= MOST_IN_ROW or not all([is_entry(entry) for entry in row]):
        raise InvalidArgument("row")


def check_end(word, end):
    if not is_within(end, 0, word.length()):
        raise InvalidNumber(end)


def count_row(word, row, end):
    """At how many indexes a row of entries stands within the first ones of a word."""
    check_row(row)
    check_end(word, end)
    question = Question(ways_for(row), len(row))
    return along(question, cut_row(word._row, 0, end), 0).many


def find_row(word, row, number):
    """The index with a number, from 0 on, at which a row of entries stands in a word; None if there is none."""
    check_row(row)
    if not is_count(number):
        raise InvalidNumber(number)
    question = Question(ways_for(row), len(row))
    if along(question, word._row, 0).many <= number:
        return None
    return visit_in(question, word._row, 0, number) - len(row)


def is_move(value, states):
    """Whether a value is a dict that leads from entries, and perhaps None, to states."""
    if not isinstance(value, dict) or not all([key is None or is_entry(key) for key in value]):
        return False
    return all([is_within(value[key], 0, states - 1) for key in value])


def ways_of(moves):
    """The ways of an automaton: without the key None other entries leave a state as it is."""
    ways = []
    for state, move in enumerate(moves):
        table = {entry: move[entry] for entry in move if entry is not None}
        ways.append((table, move.get(None, state)))
    return ways


class Watch:
    """An automaton that goes along words; it never changes."""

    def __init__(self, start, moves):
        if not isinstance(moves, list) or not 1 <= len(moves) <= MOST_STATES:
            raise InvalidArgument("moves")
        if not all([is_move(move, len(moves)) for move in moves]):
            raise InvalidArgument("moves")
        if not is_within(start, 0, len(moves) - 1):
            raise InvalidArgument("start")
        self._start = start
        self._ways = ways_of(moves)

    def after(self, word, end):
        check_end(word, end)
        return along(Question(self._ways, None), cut_row(word._row, 0, end), self._start).state

    def visits(self, word, state, end):
        check_state(self._ways, state)
        check_end(word, end)
        return along(Question(self._ways, state), cut_row(word._row, 0, end), self._start).many

    def when(self, word, state, number):
        check_state(self._ways, state)
        if not is_count(number):
            raise InvalidNumber(number)
        question = Question(self._ways, state)
        if along(question, word._row, self._start).many <= number:
            return None
        return visit_in(question, word._row, self._start, number)


def check_state(ways, state):
    if not is_within(state, 0, len(ways) - 1):
        raise InvalidNumber(state)
