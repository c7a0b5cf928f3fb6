"""Where an object is freed: it is followed along the changes of a course, and through rounds that were skipped.

A number of an object is always that of the rounds that were done one by one; `ways` tell which repeats are so many
periods later, outwards first.
"""

from roundheap.memory import RETIRED, drop_thing
from roundheap.periods import period_told
from roundheap.shifting import Shift, shifted_number
from roundheap.skips import position_of, skip_of
from roundheap.traces import Turns


class Death:
    """The change by which an object is freed."""

    def __init__(self, change, number, ways):
        self.change = change
        self.number = number
        self.ways = ways


def drops_of(course):
    """The change by which each object is freed in what was done one by one; it is reckoned once."""
    if course.drops is None:
        course.drops = {}
        for index, (action, number, _) in enumerate(course.doer.tape.changes):
            if action == drop_thing:
                course.drops[number] = index
    return course.drops


def end_of_ways(course, ways):
    """The mark at which the innermost period ends."""
    if not ways:
        return len(course.doer.tape.changes)
    turns, times = ways[-1]
    if times < skip_of(course, turns).times:
        return turns.marks[-1]
    start = period_told(course.doer, turns).start
    return turns.marks[start + (turns.times - start) % turns.period]


def skip_without(course, number, first, last):
    """The repeat between two marks in the skipped rounds of which an object goes; None if there is none."""
    events = course.events
    for index in range(position_of(events, first), position_of(events, last)):
        turns = events[index].turns
        if turns is not None and number not in course.doer.tape.changes[events[index].mark][2].things:
            return turns
    return None


def next_period(course, number, ways):
    """(number, mark, ways) of an object at the end of the innermost period, told by the period that follows.

    Behind the last period it is told by what follows the repeat. None if the object was left behind by then.
    """
    turns, times = ways[-1]
    period = period_told(course.doer, turns)
    most = skip_of(course, turns).times
    if times == most:
        later = shifted_number(Shift(period, times), number)
        return None if later == RETIRED else (later, turns.marks[-1] + 1, ways[:-1])
    if number not in period.nexts:
        return None
    first = period.ground.numbers[period.nexts.index(number)]
    # An object that has the same number one period later stays up to the last period.
    times = most if first == number else times + 1
    return (first, turns.marks[period.start], ways[:-1] + [(turns, times)])


def followed(course, number, mark, ways):
    """How an object is freed that is there at a mark; None if it never is."""
    drops = drops_of(course)
    while True:
        last = end_of_ways(course, ways)
        if mark <= drops.get(number, -1) < last:
            return Death(drops[number], number, ways)
        turns = skip_without(course, number, mark, last)
        if turns is not None:
            ways = ways + [(turns, 0)]
        elif not ways:
            return None
        later = next_period(course, number, ways)
        if later is None:
            return None
        number, mark, ways = later


def last_at(marks, change):
    """The last index of a mark that is not behind a change."""
    low = 0
    high = len(marks) - 1
    while low < high:
        middle = (low + high + 1) // 2
        if marks[middle] <= change:
            low = middle
        else:
            high = middle - 1
    return low


def spot_of_change(course, change):
    """The spot of the simple statement, or of the end of a function's body, at which a change is made."""
    passage = course.root
    spot = ()
    while True:
        index = last_at(passage.marks, change)
        spot = spot + (index,)
        if index not in passage.inner:
            return spot
        inner = passage.inner[index]
        if isinstance(inner, Turns):
            number = last_at(inner.marks, change)
            spot = spot + (number,)
            passage = inner.rounds[number]
        else:
            if passage.text[index][0] != "call":
                spot = spot + (inner.way,)
            passage = inner.passage
