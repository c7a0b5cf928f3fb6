"""Repeats that grow: what each period of one makes, and what it leaves behind."""

from roundheap.checks import is_count, is_size, is_within
from roundheap.errors import InvalidArgument, InvalidNumber
from roundheap.growth import fault_of
from roundheap.logs import row_of_items
from roundheap.places import shift_of
from roundheap.slots import births_in, leaving_of, slot_home, slot_number, slot_shift
from roundheap.spots import found_turns
from roundheap.traces import rounds_done
from roundheap.words import Making, Word


def grown_turns(run, spot):
    """The repeat that grows at a spot; the value may be of any kind."""
    _, turns = found_turns(run._course, spot)
    if turns.kind != "grows":
        raise InvalidArgument("spot")
    return turns


class Growing:
    """A repeat that grows."""

    def __init__(self, run, spot):
        self._turns = grown_turns(run, spot)
        self._leaving = leaving_of(run._course.doer, self._turns)
        self._items = run._course.doer.written

    def rhythm(self):
        return (self._turns.first, self._turns.period)

    def news(self):
        return births_in(self._leaving.period)

    def steps(self):
        period = self._leaving.period
        return period.behind.done - period.begin.done

    def log(self):
        period = self._leaving.period
        return Word(Making(row_of_items(self._items, period.begin.logged, period.behind.logged), 0, 1))

    def count(self):
        period = self._leaving.period
        return len(period.behind.things) - len(period.begin.things)

    def units(self):
        period = self._leaving.period
        return period.behind.bulk - period.begin.bulk

    def shift(self, size):
        if not is_size(size):
            raise InvalidNumber(size)
        return shift_of(self._leaving.period.plan, size)

    def leaked(self):
        return [(slot.thing.kind, slot.thing.tag) for slot in self._leaving.slots]

    def number_at(self, slot, period):
        check_slot(self._leaving, slot)
        check_period(period)
        return slot_number(self._leaving, self._leaving.slots[slot], period)

    def address_at(self, slot, period):
        check_slot(self._leaving, slot)
        check_period(period)
        return slot_home(self._leaving, self._leaving.slots[slot], period)

    def rule(self, slot):
        check_slot(self._leaving, slot)
        return rule_of(self._leaving, self._leaving.slots[slot])

    def fates(self):
        return fates_in(self._leaving)


def check_slot(leaving, slot):
    if not is_within(slot, 0, len(leaving.slots) - 1):
        raise InvalidNumber(slot)


def check_period(period):
    if not is_count(period):
        raise InvalidNumber(period)


def rule_of(leaving, slot):
    """(k, number, address): from this period on, the least one, number and address rise by as much in each period."""
    births = births_in(leaving.period)
    shift = slot_shift(leaving, slot)
    count = max(len(slot.numbers), len(slot.homes)) - 1
    number = slot_number(leaving, slot, count)
    address = slot_home(leaving, slot, count)[1]
    while count > 0:
        if slot_number(leaving, slot, count - 1) != number - births:
            break
        if slot_home(leaving, slot, count - 1)[1] != address - shift:
            break
        count -= 1
        number -= births
        address -= shift
    return (count, number, address)


def fates_in(leaving):
    """What becomes of each object of the core, in the order of their numbers."""
    period = leaving.period
    goes = {number: index for index, number in enumerate(period.nexts)}
    leaves = {slot.number: index for index, slot in enumerate(leaving.slots)}
    fates = []
    for index, number in enumerate(period.ground.numbers):
        if number in leaves:
            fates.append(("left", 1, leaves[number]))
        elif number not in goes:
            fates.append(("dies", 1))
        elif goes[number] == index:
            fates.append(("stays",))
        else:
            # Objects move only to lower indexes, of which the fate is known.
            fates.append(one_later(fates[goes[number]]))
    return fates


def one_later(fate):
    if fate[0] == "stays":
        return fate
    return (fate[0], fate[1] + 1) + fate[2:]


def growth_fault(run, spot, first, period):
    """The first condition of growth that a repeat in the body does not fulfil; None if it fulfils all."""
    _, turns = found_turns(run._course, spot)
    if len(spot) != 1:
        raise InvalidArgument("spot")
    done = rounds_done(turns)
    if not is_within(first, 0, done):
        raise InvalidNumber(first)
    if not is_within(period, 1, (done - first) // 2):
        raise InvalidNumber(period)
    return fault_of(run._course.doer, turns, first, period)
