"""Periods of repeats: how the memory is after any number of them, and how a course goes on behind them."""

from roundheap.doing import counted, memory_of
from roundheap.grounds import Ground, plan_between
from roundheap.growth import split_at
from roundheap.logs import row_of_items
from roundheap.memory import fill_memory, higher, record
from roundheap.rows import joined, repeated
from roundheap.shifting import Shift, shifted_memory
from roundheap.traces import memory_behind, rounds_done


class Period:
    """What a period of a repeat does, told by a period that was done one by one.

    It is the one from round `start` on; `begin` and `behind` are the memories at its ends. The objects of `ground`
    are those that are told by their indexes; `nexts` are the numbers of those with the same indexes one period later.
    `sunk` are the objects that the repeat has left behind, for one that grows.
    """

    def __init__(self, turns, start, begin, behind):
        self.turns = turns
        self.start = start
        self.begin = begin
        self.behind = behind
        self.ground = None
        self.nexts = []
        self.plan = None
        self.sunk = {}
        self.grows = False


def period_told(doer, turns):
    """The period by which later rounds of a repeat are told; it is reckoned once."""
    if turns.told is None:
        turns.told = growing_period(doer, turns, 1) if turns.kind == "grows" else returning_period(doer, turns)
    return turns.told


def returning_period(doer, turns):
    """The period of a repeat whose state returns."""
    before = memory_behind(doer, turns, turns.first)
    period = Period(turns, turns.first, before, memory_behind(doer, turns, rounds_done(turns)))
    period.ground = Ground(before, list(before.things))
    period.nexts = list(period.behind.things)
    period.plan = plan_between(period.ground, Ground(period.behind, period.nexts))
    return period


def growing_period(doer, turns, number):
    """The first (0) or the second (1) period of a repeat that grows."""
    first = turns.first
    middle = first + turns.period
    earlier = memory_behind(doer, turns, first)
    later = memory_behind(doer, turns, middle)
    core, sunk = split_at(doer, turns, first, turns.period, earlier)
    after, more = split_at(doer, turns, middle, turns.period, later)
    if number == 0:
        period = Period(turns, first, earlier, later)
        period.ground = Ground(earlier, core)
        period.nexts = after
        period.plan = plan_between(period.ground, Ground(later, after))
    else:
        period = Period(turns, middle, later, memory_behind(doer, turns, rounds_done(turns)))
        period.ground = Ground(later, after)
        births = later.births - earlier.births
        fellows = {other: after[index] for index, other in enumerate(core)}
        period.nexts = [fellows[other] if other in fellows else other + births for other in after]
        # Both periods do the same, so both have the same move.
        period.plan = plan_between(Ground(earlier, core), period.ground)
    period.sunk = {other: True for other in (sunk if number == 0 else more)}
    period.grows = True
    return period


def folded(turns, number):
    """(q, round): a round is this one, done one by one, so many periods later; None if it is not known."""
    if number < len(turns.rounds):
        return (0, number)
    if turns.kind == "over":
        return None
    start = turns.first if turns.kind == "returns" else turns.first + turns.period
    q, rest = divmod(number - start, turns.period)
    return (q, start + rest)


def far_top(course, period, times, last):
    """The most objects and units behind statements, so many periods on and up to one that was done one by one."""
    top = period.behind.top
    if not period.grows:
        return top
    many = len(period.behind.things) - len(period.begin.things)
    units = period.behind.bulk - period.begin.bulk
    # The last statement of a period may be the one with the most, or one of the round that is not over.
    spans = [(times - 1, course.tops[period.begin.worked:period.behind.worked])]
    spans.append((times, course.tops[period.begin.worked:last]))
    for count, tops in spans:
        for one, other in tops:
            top = higher(top, (one + count * many, other + count * units))
    return top


def skip_rounds(course, turns):
    """Go on behind the last round of a repeat whose later rounds are known."""
    doer = course.doer
    period = period_told(doer, turns)
    # The last round ends where the one behind it would begin.
    start = period.start
    q, rest = divmod(turns.times - start, turns.period)
    begin = memory_behind(doer, turns, start + rest)
    whole = row_of_items(doer.written, period.begin.logged, period.behind.logged)
    part = row_of_items(doer.written, period.begin.logged, begin.logged)
    row = joined(repeated(whole, q - 1), part)
    if row.extent > 0:
        doer.written.append(row)
    memory = shifted_memory(begin, Shift(period, q))
    now = memory_of(doer)
    memory.top = higher(now.top, far_top(course, period, q, begin.worked))
    memory.worked = now.worked
    memory.logged = len(doer.written)
    note_touches(doer, period, q, start + rest)
    record(doer.tape, fill_memory, None, memory)
    doer.counts = counted(memory)


def note_touches(doer, period, times, last):
    """Remember which objects of the beginning of the period are touched in rounds that are not done one by one."""
    touched = period.turns.touched
    begin = touched[period.start]
    whole = doer.touches[begin:touched[rounds_done(period.turns)]]
    part = doer.touches[begin:touched[last]]
    doer.touches.extend(far_touches(period, whole, part, times))


def far_touches(period, whole, part, times):
    """The objects that are touched in so many periods and a part of one, by what is touched in the first period."""
    in_whole = set(whole)
    in_part = set(part)
    numbers = period.ground.numbers
    indexes = period.ground.indexes
    goes = {indexes[number]: index for index, number in enumerate(period.nexts) if number in indexes}
    found = []
    for begin, number in enumerate(numbers):
        index = begin
        count = 0
        while count < times and numbers[index] not in in_whole and goes[index] != index:
            index = goes[index]
            count += 1
        if numbers[index] in in_whole and count < times or numbers[index] in in_part:
            found.append(number)
    return found
