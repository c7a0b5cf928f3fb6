"""The addresses of variables at the beginnings of the rounds of a repeat."""

from math import gcd

from roundheap.checks import is_count, is_one_of
from roundheap.errors import InvalidName, InvalidNumber
from roundheap.grounds import place_of
from roundheap.periods import folded, period_told
from roundheap.plans import meeting_of, order_of
from roundheap.shifting import Shift, shifted_home
from roundheap.sights import folded_sight
from roundheap.spots import Fold, found_turns
from roundheap.traces import holding, memory_behind, rounds_done


class Addresses:
    """The addresses of the variables of the call around a repeat."""

    def __init__(self, run, spot):
        found, turns = found_turns(run._course, spot)
        self._course = run._course
        self._turns = turns
        self._folds = found.folds

    def taken(self, name, count):
        check_round(self._turns, [name], count)
        times, number = folded(self._turns, count)
        if trace_home(self._course, self._turns, self._folds, name, number) is None:
            return None
        folds = self._folds
        if times > 0:
            folds = folds + [Fold(self._turns, times, count)]
        memory = memory_behind(self._course.doer, self._turns, number)
        later = folded_sight(self._course, memory, folds).memory
        held = holding(later, later.frames[-1].held[name])
        return None if held is None else held[1]

    def alike(self, name, other, count):
        check_round(self._turns, [name, other], count)
        goal = home_in(self._course, self._turns, self._folds, name, count)
        if goal is None:
            return []
        return rows_with(self._course, self._turns, self._folds, [(other, goal)], count)

    def exchanged(self, name, other, count):
        check_round(self._turns, [name, other], count)
        one = home_in(self._course, self._turns, self._folds, name, count)
        two = home_in(self._course, self._turns, self._folds, other, count)
        if one is None or two is None:
            return []
        return rows_with(self._course, self._turns, self._folds, [(name, two), (other, one)], count)

    def all_back(self):
        if self._turns.kind != "returns":
            return None
        return self._turns.period * order_of(period_told(self._course.doer, self._turns).plan)


def check_round(turns, names, count):
    """Raise for the first value that is not the name of a variable, or not a round of the repeat that begins."""
    for name in names:
        if not is_one_of(name, turns.helds[0]):
            raise InvalidName(name)
    if not is_count(count) or count >= turns.times or folded(turns, count) is None:
        raise InvalidNumber(count)


def start_of(turns):
    """The round from which on periods are told; one that is not there if there are none."""
    if turns.kind == "over":
        return len(turns.rounds)
    return turns.first if turns.kind == "returns" else turns.first + turns.period


def is_sunk(course, turns, folds, number, count):
    """Whether an object is retired in the folds around the repeat, or was left by the repeat itself."""
    if turns.kind == "grows" and count >= start_of(turns) and number in period_told(course.doer, turns).sunk:
        return True
    for fold in folds:
        if fold.number > rounds_done(fold.turns) and number in period_told(course.doer, fold.turns).sunk:
            return True
    return False


def trace_home(course, turns, folds, name, count):
    """The address of a variable at the beginning of a round that was done one by one, the folds left aside."""
    held = turns.helds[count][name]
    if held is None or is_sunk(course, turns, folds, held[0], count):
        return None
    return held[1]


def home_in(course, turns, folds, name, count):
    """The address of a variable at the beginning of any round, the folds left aside."""
    times, number = folded(turns, count)
    home = trace_home(course, turns, folds, name, number)
    if home is None or times == 0:
        return home
    return shifted_home(Shift(period_told(course.doer, turns), times), home)


def rows_with(course, turns, folds, wanted, count):
    """The rows of rounds from one on in which each variable of a list of (name, address) has this address."""
    start = start_of(turns)
    rows = []
    for number in range(count, start):
        if all([trace_home(course, turns, folds, name, number) == home for name, home in wanted]):
            rows.append((number, None))
    if turns.kind == "over":
        return rows
    period = period_told(course.doer, turns)
    for number in range(start, start + turns.period):
        homes = [(trace_home(course, turns, folds, name, number), goal) for name, goal in wanted]
        row = row_from(turns, number, meeting_in(period, homes), count)
        if row is not None:
            rows.append(row)
    return sorted(rows)


def meeting_in(period, homes):
    """Behind how many periods each address of a list of (address, goal) has come to its goal: (n, step) or None."""
    meeting = (0, 1)
    for home, goal in homes:
        place = None if home is None else place_of(period.ground, home)
        target = place_of(period.ground, goal)
        if place is None or target is None:
            return None
        found = meeting_of(period.plan, target, place)
        meeting = None if found is None else both_meetings(meeting, found)
        if meeting is None:
            return None
    return meeting


def is_met(meeting, number):
    first, step = meeting
    if step is None:
        return number == first
    return number >= first and (number - first) % step == 0


def both_meetings(one, other):
    """What two rows of numbers (first, step) have in common; None if that is nothing."""
    if one[1] is None or other[1] is None:
        first = one[0] if one[1] is None else other[0]
        return (first, None) if is_met(one, first) and is_met(other, first) else None
    step = one[1] * other[1] // gcd(one[1], other[1])
    least = max(one[0], other[0])
    first = least + (one[0] - least) % one[1]
    while first < least + step:
        if is_met(other, first):
            return (first, step)
        first += one[1]
    return None


def row_from(turns, number, meeting, count):
    """The row of those rounds from one on that are some periods behind a round; None if there are none."""
    if meeting is None:
        return None
    times, step = meeting
    first = number + times * turns.period
    if step is not None and first < count:
        stride = step * turns.period
        first += (count - first + stride - 1) // stride * stride
    if first < count or first >= turns.times:
        return None
    if step is None or first + step * turns.period >= turns.times:
        return (first, None)
    return (first, step * turns.period)
