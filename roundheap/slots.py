"""Slots: the objects that each period of a repeat that grows leaves behind."""

from roundheap.grounds import home_at, place_of
from roundheap.periods import growing_period
from roundheap.places import is_inner, origin_of, shift_of


class Slot:
    """An object that the first period leaves: its index in the core at the beginning, or None if it was made then.

    `numbers` and `homes` are the numbers and the addresses of what the first periods leave here; from the last one on
    they rise by as much in each period.
    """

    def __init__(self, period, number):
        indexes = period.ground.indexes
        self.number = number
        self.thing = period.behind.things[number]
        self.index = indexes[number] if number in indexes else None
        self.numbers = first_numbers(period, number, self.index)
        self.homes = first_homes(period, self.thing.home)


class Leaving:
    """The first period of a repeat that grows, and the slots of what it leaves, in the order of the numbers."""

    def __init__(self, doer, turns):
        self.period = growing_period(doer, turns, 0)
        core = {number: True for number in self.period.nexts}
        self.slots = []
        for number in self.period.behind.things:
            if number not in core and number not in self.period.sunk:
                self.slots.append(Slot(self.period, number))


def leaving_of(doer, turns):
    """What a repeat that grows leaves; it is reckoned once."""
    if turns.leaving is None:
        turns.leaving = Leaving(doer, turns)
    return turns.leaving


def births_in(period):
    """How many objects each period makes."""
    return period.behind.births - period.begin.births


def first_numbers(period, number, index):
    """The numbers at a slot in the first periods, until they rise by as many as a period makes."""
    numbers = [number]
    while index is not None:
        later = period.nexts[index]
        index = period.ground.indexes[later] if later in period.ground.indexes else None
        numbers.append(later)
    return numbers


def first_homes(period, home):
    """The addresses at a slot in the first periods, until they rise by the shift of their pool."""
    place = place_of(period.ground, home)
    homes = [home]
    # A place behind the free addresses has one that was never taken.
    while is_inner(period.plan, place) or place[2] < len(period.begin.free[place[1]]):
        place = origin_of(period.plan, place)
        homes.append(home_at(period.ground, place))
    return homes


def slot_number(leaving, slot, count):
    """The number of the object that a period leaves at a slot."""
    last = len(slot.numbers) - 1
    if count <= last:
        return slot.numbers[count]
    return slot.numbers[last] + (count - last) * births_in(leaving.period)


def slot_shift(leaving, slot):
    """By how many places the pool of a slot moves up with each period."""
    return shift_of(leaving.period.plan, slot.thing.home[0])


def slot_home(leaving, slot, count):
    """The address of the object that a period leaves at a slot."""
    last = len(slot.homes) - 1
    if count <= last:
        return slot.homes[count]
    size, k = slot.homes[last]
    return (size, k + (count - last) * slot_shift(leaving, slot))
