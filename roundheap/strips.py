"""What each object of a strip refers to: the heap of a repeat that grows, some periods on.

A period leaves the objects of its slots. What an object refers to when it is left stays; but objects of the core to
which it refers may be left later, or have another index later.
"""

from roundheap.memory import RETIRED
from roundheap.shifting import number_behind
from roundheap.slots import leaving_of, slot_number


class Heap:
    """The first period of a repeat that grows, and so many periods of it."""

    def __init__(self, doer, turns, periods):
        self.leaving = leaving_of(doer, turns)
        self.periods = periods
        period = self.leaving.period
        self.core = {number: index for index, number in enumerate(period.nexts)}
        self.places = {slot.number: index for index, slot in enumerate(self.leaving.slots)}


def items_of(heap):
    """All objects: old ones, left ones by period and slot, then the core."""
    period = heap.leaving.period
    items = [("old", number) for number in period.sunk]
    for count in range(heap.periods):
        items.extend([("left", slot, count) for slot in range(len(heap.leaving.slots))])
    items.extend([("core", index) for index in range(len(period.nexts))])
    return items


def number_of(heap, item):
    if item[0] == "old":
        return item[1]
    if item[0] == "left":
        return slot_number(heap.leaving, heap.leaving.slots[item[1]], item[2])
    return number_behind(heap.leaving.period, item[1], heap.periods)


def followed(heap, index, count):
    """What an object of the core at the beginning of a period is at the end of the strip."""
    numbers = heap.leaving.period.ground.numbers
    while count < heap.periods:
        number = numbers[index]
        if number in heap.places:
            return ("left", heap.places[number], count)
        # Nothing to which something refers for good is freed.
        if heap.core[number] == index:
            break
        index = heap.core[number]
        count += 1
    return ("core", index)


def entered(heap, index, at, count):
    """The left object to which a field of an object of the core refers at the beginning of a period."""
    period = heap.leaving.period
    indexes = period.ground.indexes
    while count > 0:
        number = period.nexts[index]
        value = period.behind.things[number].fields[at]
        count -= 1
        if value in heap.places:
            return ("left", heap.places[value], count)
        # It referred to the object already when the period began, so it was there itself.
        if indexes[number] == index:
            break
        index = indexes[number]
    return ("old", period.begin.things[period.ground.numbers[index]].fields[at])


def old_target(heap, value):
    """To what an object that was left before the first period refers."""
    if value in heap.leaving.period.sunk:
        return ("old", value)
    return followed(heap, heap.leaving.period.ground.indexes[value], 0)


def left_target(heap, slot, at, value, count):
    """To what a field of an object refers that a period leaves at a slot; the value is that of the first period."""
    if value in heap.core:
        return followed(heap, heap.core[value], count + 1)
    if value in heap.places:
        return ("left", heap.places[value], count)
    return entered(heap, slot.index, at, count)


def core_target(heap, index, at):
    """To what a field of an object of the core refers; None if to nothing."""
    period = heap.leaving.period
    value = period.behind.things[period.nexts[index]].fields[at]
    if value is None or value == RETIRED:
        return None
    if value in heap.core:
        return ("core", heap.core[value])
    return entered(heap, index, at, heap.periods)


def targets_of(heap, item):
    """What each field of an object refers to, None for nothing that belongs to the strip."""
    leaving = heap.leaving
    if item[0] == "core":
        number = leaving.period.nexts[item[1]]
        many = len(leaving.period.behind.things[number].fields)
        return [core_target(heap, item[1], at) for at in range(many)]
    if item[0] == "old":
        fields = leaving.period.begin.things[item[1]].fields
        return [None if value is None else old_target(heap, value) for value in fields]
    slot = leaving.slots[item[1]]
    targets = []
    for at, value in enumerate(slot.thing.fields):
        nothing = value is None or value == RETIRED
        targets.append(None if nothing else left_target(heap, slot, at, value, item[2]))
    return targets


def variable_targets(heap):
    """What each variable of the program refers to at the end of the strip, None for nothing that belongs to it."""
    held = heap.leaving.period.behind.frames[0].held
    targets = []
    for name in held:
        value = held[name]
        if value is None or value == RETIRED:
            targets.append(None)
        elif value in heap.core:
            targets.append(("core", heap.core[value]))
        else:
            # A variable that refers to a left object does so from the beginning on.
            targets.append(("old", value))
    return targets


def sort_of(heap, item):
    """The name of the class of an object."""
    period = heap.leaving.period
    if item[0] == "old":
        return period.begin.things[item[1]].kind
    if item[0] == "left":
        return heap.leaving.slots[item[1]].thing.kind
    return period.behind.things[period.nexts[item[1]]].kind
