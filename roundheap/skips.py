"""Skips: which events of a course the rounds of a repeat consist of that were not done one by one."""

from roundheap.periods import period_told
from roundheap.traces import rounds_done


class Skip:
    """The rounds of a repeat that were skipped, told by positions among the events of the course.

    The period has the events from `begin` to `end` - 1. The skipped rounds are this period 1 to `times` - 1 times
    later, and those up to `part` - 1 `times` times later. `rise` are the objects and units that each time adds.
    """

    def __init__(self, course, turns):
        period = period_told(course.doer, turns)
        self.times, rest = divmod(turns.times - period.start, turns.period)
        self.begin = position_of(course.events, turns.marks[period.start])
        self.end = position_of(course.events, turns.marks[rounds_done(turns)])
        self.part = position_of(course.events, turns.marks[period.start + rest])
        self.rise = (0, 0)
        if period.grows:
            many = len(period.behind.things) - len(period.begin.things)
            self.rise = (many, period.behind.bulk - period.begin.bulk)


def position_of(events, mark):
    """How many events there are ahead of a mark."""
    low = 0
    high = len(events)
    while low < high:
        middle = (low + high) // 2
        if events[middle].mark < mark:
            low = middle + 1
        else:
            high = middle
    return low


def skip_of(course, turns):
    """The skip of a repeat; it is reckoned once."""
    if turns.skip is None:
        turns.skip = Skip(course, turns)
    return turns.skip


def multiplicities(course, begin, end):
    """How often each event from one position to another is done, those of skipped rounds among them counted."""
    counts = [0 for _ in range(begin, end)]
    # What is added from an event on, going backwards: skipped rounds consist of events ahead of them.
    changes = [0 for _ in range(begin, end + 1)]
    many = 1
    for index in range(end - begin - 1, -1, -1):
        many += changes[index + 1]
        counts[index] = many
        turns = course.events[begin + index].turns
        if turns is not None:
            skip = skip_of(course, turns)
            for last, count in ((skip.end, many * (skip.times - 1)), (skip.part, many)):
                if last > skip.begin:
                    changes[last - begin] += count
                    changes[skip.begin - begin] -= count
    return counts
