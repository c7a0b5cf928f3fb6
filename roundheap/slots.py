"""Slots: the objects that each period of a repeat that grows leaves behind."""

from roundheap.grounds import home_at, place_of
from roundheap.periods import growing_period
from roundheap.places import is_inner, origin_of
from roundheap.plans import step_of


class Slot:
    """An object that the first period leaves: its index in the core at the beginning, or None if it was made then."""

    def __init__(self, number, index, place, thing):
        self.number = number
        self.index = index
        self.place = place
        self.thing = thing


class Leaving:
    """The first period of a repeat that grows, and the slots of what it leaves, in the order of the numbers."""

    def __init__(self, doer, turns):
        self.period = growing_period(doer, turns, 0)
        ground = self.period.ground
        behind = self.period.behind
        core = {number: True for number in self.period.nexts}
        self.slots = []
        for number in behind.things:
            if number not in core and number not in self.period.sunk:
                thing = behind.things[number]
                index = ground.indexes[number] if number in ground.indexes else None
                self.slots.append(Slot(number, index, place_of(ground, thing.home), thing))


def leaving_of(doer, turns):
    """What a repeat that grows leaves; it is reckoned once."""
    if turns.leaving is None:
        turns.leaving = Leaving(doer, turns)
    return turns.leaving


def births_in(period):
    """How many objects each period makes."""
    return period.behind.births - period.before.births


def first_numbers(leaving, slot):
    """The numbers of a slot in the first periods; from the last one on they rise by as many as a period makes."""
    period = leaving.period
    numbers = [slot.number]
    index = slot.index
    while index is not None:
        number = period.nexts[index]
        index = period.ground.indexes[number] if number in period.ground.indexes else None
        numbers.append(number)
    return numbers


def slot_number(leaving, slot, count):
    """The number of the object that a period leaves at a slot."""
    numbers = first_numbers(leaving, slot)
    last = len(numbers) - 1
    if count <= last:
        return numbers[count]
    return numbers[last] + (count - last) * births_in(leaving.period)


def first_homes(leaving, slot):
    """The addresses of a slot in the first periods; from the last one on they rise by the shift of their pool."""
    period = leaving.period
    place = slot.place
    homes = [home_at(period.ground, place)]
    # A place behind the free addresses has one that was never taken.
    while is_inner(period.plan, place) or place[2] < len(period.before.free[place[1]]):
        place = origin_of(period.plan, place)
        homes.append(home_at(period.ground, place))
    return homes


def slot_shift(leaving, slot):
    """By how many places the pool of a slot moves up with each period."""
    return step_of(leaving.period.plan, ("pool", slot.thing.home[0], 0))


def slot_home(leaving, slot, count):
    """The address of the object that a period leaves at a slot."""
    homes = first_homes(leaving, slot)
    last = len(homes) - 1
    if count <= last:
        return homes[count]
    size, k = homes[last]
    return (size, k + (count - last) * slot_shift(leaving, slot))


def is_left(leaving, number, most):
    """Whether an object was left before the first period, or by one of so many periods."""
    if number in leaving.period.sunk:
        return most >= 0
    births = births_in(leaving.period)
    for slot in leaving.slots:
        numbers = first_numbers(leaving, slot)
        if number in numbers:
            return numbers.index(number) < most
        count, rest = divmod(number - numbers[-1], births)
        if rest == 0 and count > 0:
            return len(numbers) - 1 + count < most
    return False
