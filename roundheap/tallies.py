"""Tallies: what is summed up over the steps of a course, also over rounds that were not done one by one."""

from roundheap.skips import multiplicities, position_of, skip_of

NO_LIFT = (0, 0)


class Gauge:
    """What is summed up: an amount at each event that is a step, if the sizes behind it are great enough.

    `least` are the numbers of objects and of units that there must be. For an `axis` (0 for objects, 1 for units) the
    size itself is summed up, wherever the amount is 1. The sizes rise in a repeat that grows; all else stays there.
    """

    def __init__(self, amounts, least, axis):
        self.amounts = amounts
        self.least = least
        self.axis = axis


class Tally:
    """The sums of a gauge ahead of each event of a course, and behind the last one."""

    def __init__(self, course, gauge):
        self.course = course
        self.gauge = gauge
        self.sums = [0]
        for index in range(len(course.events)):
            self.sums.append(self.sums[-1] + amount_in(self, self.sums, 0, index, NO_LIFT))


def has_lift(gauge):
    """Whether it matters how much the sizes have risen."""
    return gauge.axis is not None or gauge.least != NO_LIFT


def amount_at(gauge, step, amount, lift):
    """What a step counts if the sizes behind it have risen."""
    objects, units = step.extent
    if objects + lift[0] < gauge.least[0] or units + lift[1] < gauge.least[1]:
        return 0
    return amount if gauge.axis is None else amount * (step.extent[gauge.axis] + lift[gauge.axis])


def amount_in(tally, sums, begin, index, lift):
    """What the event at a position counts, by the sums from `begin` on."""
    event = tally.course.events[index]
    if event.turns is None:
        amount = tally.gauge.amounts[index]
        return amount_at(tally.gauge, event.deed, amount, lift) if amount > 0 else 0
    skip = skip_of(tally.course, event.turns)
    if skip.rise != NO_LIFT and has_lift(tally.gauge):
        return whole_sum(tally, skip, 1, skip.times) + part_sum(tally, skip, skip.part, skip.times)
    first = sums[skip.begin - begin]
    return (skip.times - 1) * (sums[skip.end - begin] - first) + sums[skip.part - begin] - first


def lifted(skip, times):
    return (times * skip.rise[0], times * skip.rise[1])


def sums_in(tally, begin, end, lift):
    """The sums from one position to another if the sizes have risen."""
    sums = [0]
    for index in range(begin, end):
        sums.append(sums[-1] + amount_in(tally, sums, begin, index, lift))
    return sums


def part_sum(tally, skip, last, times):
    """What the events of a period up to a position count, so many times later."""
    return sums_in(tally, skip.begin, last, lifted(skip, times))[-1]


def enough_from(gauge, step, skip):
    """The least number of times later from which on the sizes behind a step of a repeat that grows are enough."""
    count = 0
    for size, least, rise in zip(step.extent, gauge.least, skip.rise):
        if size < least:
            count = max(count, (least - size + rise - 1) // rise)
    return count


def rows_of_period(tally, skip):
    """The steps of a period that may count: (amount, size, rise of the size, from how many times later on)."""
    gauge = tally.gauge
    rows = []
    for offset, many in enumerate(multiplicities(tally.course, skip.begin, skip.end)):
        step = tally.course.events[skip.begin + offset].deed
        amount = 0 if step is None else many * gauge.amounts[skip.begin + offset]
        if amount > 0:
            size, rise = (1, 0) if gauge.axis is None else (step.extent[gauge.axis], skip.rise[gauge.axis])
            rows.append((amount, size, rise, enough_from(gauge, step, skip)))
    return rows


def sum_of_rows(rows, first, last):
    """What the steps of a period count `first` to `last` - 1 times later."""
    total = 0
    for amount, size, rise, least in rows:
        begin = max(first, least)
        if begin < last:
            total += amount * ((last - begin) * size + rise * (begin + last - 1) * (last - begin) // 2)
    return total


def whole_sum(tally, skip, first, last):
    return sum_of_rows(rows_of_period(tally, skip), first, last)


def total_at(tally, mark, folds):
    """The sum over all steps ahead of a mark within folds."""
    course = tally.course
    sums = tally.sums
    total = 0
    start = 0
    begin = 0
    for fold in folds:
        skip = skip_of(course, fold.turns)
        total += sums[skip.begin - start] - sums[begin - start]
        begin = skip.begin
        if skip.rise != NO_LIFT and has_lift(tally.gauge):
            total += whole_sum(tally, skip, 0, fold.times)
            start = begin
            sums = sums_in(tally, begin, skip.end, lifted(skip, fold.times))
        else:
            total += fold.times * (sums[skip.end - start] - sums[begin - start])
    return total + sums[position_of(course.events, mark) - start] - sums[begin - start]


def index_with(sums, number):
    """The index of the event to which an item with a number belongs: the last one with no greater sum ahead."""
    low = 0
    high = len(sums) - 1
    while low < high:
        middle = (low + high) // 2
        if sums[middle + 1] <= number:
            low = middle + 1
        else:
            high = middle
    return low


def times_with(tally, skip, number):
    """How many times later, from once on, a period has the item with a number, and its number in this period."""
    rows = rows_of_period(tally, skip)
    low = 1
    high = skip.times
    while low < high:
        middle = (low + high) // 2
        if sum_of_rows(rows, 1, middle + 1) > number:
            high = middle
        else:
            low = middle + 1
    return low, number - sum_of_rows(rows, 1, low)


def item_at(tally, number):
    """(event, [(repeat, times later), ..]) for the item with a number; None if there are not so many."""
    sums = tally.sums
    if number >= sums[-1]:
        return None
    start = 0
    ways = []
    while True:
        index = index_with(sums, number)
        event = tally.course.events[start + index]
        if event.turns is None:
            return event, ways
        rest = number - sums[index]
        skip = skip_of(tally.course, event.turns)
        if skip.rise != NO_LIFT and has_lift(tally.gauge):
            times, number = times_with(tally, skip, rest)
            start = skip.begin
            sums = sums_in(tally, start, skip.end, lifted(skip, times))
        else:
            first = sums[skip.begin - start]
            times, rest = divmod(rest, sums[skip.end - start] - first)
            times += 1
            number = first + rest
        ways.append((event.turns, times))


def far_spot(spot, ways):
    """The spot that is so many periods later for each repeat of a list."""
    numbers = list(spot)
    for turns, times in ways:
        numbers[turns.depth] += times * turns.period
    return tuple(numbers)


def tally_of_word(course, word):
    """The tally that counts the steps with a word, or all steps for None; it is reckoned once."""
    if word not in course.tallies:
        amounts = [1 if event.deed is not None and is_step_of(event.deed, word) else 0 for event in course.events]
        course.tallies[word] = Tally(course, Gauge(amounts, NO_LIFT, None))
    return course.tallies[word]


def is_step_of(step, word):
    return word is None or step.statement[0] == word
