"""Probes: the steps of a run that fulfil conditions."""

from roundheap.checks import is_count, is_one_of
from roundheap.conditions import amounts_of, are_conditions, least_of
from roundheap.errors import InvalidArgument, InvalidNumber
from roundheap.skips import skip_of
from roundheap.spots import found_spot
from roundheap.tallies import NO_LIFT, Gauge, Tally, far_spot, item_at, total_at

SIZES_OF = ("objects", "units")


class Probe:
    """The steps of a run that fulfil all of some conditions."""

    def __init__(self, run, conditions):
        course = run._course
        if not are_conditions(course.world, conditions):
            raise InvalidArgument("conditions")
        self._course = course
        self._amounts = amounts_of(course, conditions)
        self._least = least_of(conditions)
        self._tally = Tally(course, Gauge(self._amounts, self._least, None))

    def count(self, spot):
        return sum_ahead(self._tally, found_spot(self._course, spot))

    def find(self, number):
        if not is_count(number):
            raise InvalidNumber(number)
        return spot_of_item(self._tally, number)

    def after(self, spot):
        return spot_of_item(self._tally, sum_ahead(self._tally, found_spot(self._course, spot)))

    def before(self, spot):
        number = sum_ahead(self._tally, found_spot(self._course, spot))
        return spot_of_item(self._tally, number - 1) if number > 0 else None

    def total(self, spot, sort):
        found = found_spot(self._course, spot)
        axis = axis_of(sort)
        return sum_ahead(Tally(self._course, Gauge(self._amounts, self._least, axis)), found)

    def greatest(self, begin, end, sort):
        ends = [found_spot(self._course, begin), found_spot(self._course, end)]
        axis = axis_of(sort)
        first, last = [sum_ahead(self._tally, found) for found in ends]
        return greatest_between(self._tally, ends, axis) if first < last else None


def axis_of(sort):
    if not is_one_of(sort, SIZES_OF):
        raise InvalidArgument("sort")
    return SIZES_OF.index(sort)


def sum_ahead(tally, found):
    """The sum of a tally ahead of what was found for a spot."""
    return total_at(tally, found.passage.marks[found.index], found.folds)


def spot_of_item(tally, number):
    """The spot of the step with the item that has a number; None if there is none."""
    item = item_at(tally, number)
    if item is None:
        return None
    event, ways = item
    return far_spot(event.deed.spot, ways)


def with_least(tally, axis, size):
    """The tally of those steps behind which there are at least so many objects or units."""
    least = list(tally.gauge.least)
    least[axis] = max(least[axis], size)
    return Tally(tally.course, Gauge(tally.gauge.amounts, (least[0], least[1]), None))


def last_times(course, folds):
    """(skip, times) for each repeat that grows: the greatest number of periods later that comes ahead of some folds."""
    turns = [(event.turns, None) for event in course.events if event.turns is not None]
    turns.extend([(fold.turns, fold.times) for fold in folds])
    found = []
    for part, times in turns:
        skip = skip_of(course, part)
        if skip.rise != NO_LIFT:
            found.append((skip, skip.times if times is None else times))
    return found


def sizes_ahead(course, folds, axis):
    """Sizes, ascending, among which is the greatest one of any steps up to a spot within folds."""
    sizes = {event.deed.extent[axis]: True for event in course.events if event.deed is not None}
    for skip, times in last_times(course, folds):
        for event in course.events[skip.begin:skip.end]:
            if event.deed is not None:
                # Sizes rise from period to period: the greatest one of a step is in the last period or the one ahead.
                for count in (times - 1, times):
                    sizes[event.deed.extent[axis] + count * skip.rise[axis]] = True
    return sorted(sizes)


def greatest_between(tally, ends, axis):
    """(size, spot) of the first of the greatest steps between two spots, between which there is one."""
    sizes = sizes_ahead(tally.course, ends[1].folds, axis)
    low = 0
    high = len(sizes) - 1
    while low < high:
        middle = (low + high + 1) // 2
        higher = with_least(tally, axis, sizes[middle])
        if sum_ahead(higher, ends[0]) < sum_ahead(higher, ends[1]):
            low = middle
        else:
            high = middle - 1
    best = with_least(tally, axis, sizes[low])
    return (sizes[low], spot_of_item(best, sum_ahead(best, ends[0])))


def runs_out(run, most, sort):
    """The spot of the first step behind which there are more objects or units than some; None if there is none."""
    if not is_count(most):
        raise InvalidNumber(most)
    axis = axis_of(sort)
    course = run._course
    amounts = [0 if event.deed is None else 1 for event in course.events]
    return spot_of_item(with_least(Tally(course, Gauge(amounts, (0, 0), None)), axis, most + 1), 0)
