"""Sights: the memory and the log at a spot of a course, however far it is."""

from roundheap.logs import row_of_items
from roundheap.memory import higher, memory_at
from roundheap.periods import far_top, period_told
from roundheap.rows import joined, leaf_row, repeated
from roundheap.shifting import Shift, shifted_memory, with_sunk
from roundheap.traces import rounds_done


class Sight:
    """A memory and the log that was written up to it.

    The log consists of parts: (items, first, last, times), the items of a list with the indexes from first to
    last - 1, so many times.
    """

    def __init__(self, world, memory, parts):
        self.world = world
        self.memory = memory
        self.parts = parts


def log_parts(course, folds, last):
    """The parts of the log up to an item, within folds."""
    items = course.doer.written
    parts = []
    begin = 0
    for fold in folds:
        period = period_told(course.doer, fold.turns)
        parts.append((items, begin, period.begin.logged, 1))
        parts.append((items, period.begin.logged, period.behind.logged, fold.times))
        begin = period.begin.logged
    parts.append((items, begin, last, 1))
    return parts


def row_of_parts(parts):
    row = leaf_row(())
    for items, first, last, times in parts:
        row = joined(row, repeated(row_of_items(items, first, last), times))
    return row


def sight_at(course, found):
    """The sight of what was found for a spot."""
    mark = found.passage.marks[found.index]
    return folded_sight(course, memory_at(course.doer.tape, mark), found.folds)


def folded_sight(course, memory, folds):
    """The sight of a memory that was come to, within folds."""
    parts = log_parts(course, folds, memory.logged)
    top = memory.top
    last = memory.worked
    # The statements within folds were all done before: those of a fold further in are part of a period further out.
    for fold in folds[::-1]:
        period = period_told(course.doer, fold.turns)
        shift = Shift(period, fold.times)
        later = shifted_memory(memory, shift)
        if period.grows and fold.number == rounds_done(fold.turns):
            later = with_sunk(later, memory, shift)
        top = higher(top, far_top(course, period, fold.times, last))
        last = max(last, period.behind.worked)
        memory = later
    memory.top = top
    return Sight(course.world, memory, parts)
