"""How a memory that was come to is so many periods later: the same state, with other numbers and addresses."""

from roundheap.grounds import home_at, place_of
from roundheap.memory import RETIRED, SIZES, Frame, Memory, Thing
from roundheap.places import front_of, origin_of
from roundheap.plans import power_of


class Shift:
    """A period, and how many times more it is done; `known` are numbers that were told already."""

    def __init__(self, period, times):
        self.period = period
        self.times = times
        self.births = times * (period.behind.births - period.begin.births)
        self.plan = power_of(period.plan, times)
        self.known = {None: None, RETIRED: RETIRED}
        for number in period.sunk:
            self.known[number] = RETIRED


def number_behind(period, index, times):
    """The number of the object with an index behind so many periods."""
    indexes = period.ground.indexes
    while times > 0:
        number = period.nexts[index]
        if number not in indexes:
            return number + (times - 1) * (period.behind.births - period.begin.births)
        # An object that has the same index behind the period stays.
        if indexes[number] == index:
            return number
        index = indexes[number]
        times -= 1
    return period.ground.numbers[index]


def shifted_number(shift, number):
    if number not in shift.known:
        indexes = shift.period.ground.indexes
        if number in indexes:
            shift.known[number] = number_behind(shift.period, indexes[number], shift.times)
        else:
            shift.known[number] = number + shift.births
    return shift.known[number]


def shifted_home(shift, home):
    ground = shift.period.ground
    return home_at(ground, origin_of(shift.plan, place_of(ground, home)))


def shifted_pool(shift, memory, size):
    """(free, behind) of a pool, the first address to be taken last."""
    ground = shift.period.ground
    homes = [(size, k) for k in memory.free[size][::-1]]
    behind = memory.behind[size]
    front, fresh = front_of(shift.plan, size)
    base = len(ground.memory.free[size]) - ground.memory.behind[size]
    # From the first place behind the front on whose origin is behind the free ones, the addresses follow the rule.
    while base + behind < len(front) or fresh + base + behind - len(front) < len(ground.memory.free[size]):
        homes.append((size, behind))
        behind += 1
    free = [shifted_home(shift, home)[1] for home in homes]
    return (free[::-1], shifted_home(shift, (size, behind))[1])


def shifted_thing(shift, thing, fields):
    return Thing(thing.kind, thing.tag, fields, thing.generation, shifted_home(shift, thing.home))


def shifted_things(shift, memory):
    things = {}
    for number in memory.things:
        if number not in shift.period.sunk:
            thing = memory.things[number]
            fields = tuple([shifted_number(shift, value) for value in thing.fields])
            things[shifted_number(shift, number)] = shifted_thing(shift, thing, fields)
    return things


def shifted_kept(shift, memory):
    """The objects to which retired ones refer: what has sunk is retired."""
    kept = {shifted_number(shift, number): True for number in memory.kept}
    for number in shift.period.sunk:
        for value in shift.period.begin.things[number].fields:
            if value is not None and value not in shift.period.sunk:
                kept[shifted_number(shift, value)] = True
    return kept


def shifted_gone(period, memory, times):
    """(count, units) of the retired objects."""
    if not period.grows:
        return memory.gone
    many = len(period.sunk) + times * (len(period.behind.things) - len(period.begin.things))
    units = sum([period.begin.things[number].home[0] for number in period.sunk])
    units += times * (period.behind.bulk - period.begin.bulk)
    return (memory.gone[0] + many, memory.gone[1] + units)


def bulk_of(memory):
    return sum([memory.things[number].home[0] for number in memory.things])


def shifted_memory(memory, shift):
    """A memory so many periods later, for one between the beginning and the end of the period.

    Of its items of the log, and of what was most in it, nothing is told.
    """
    period = shift.period
    times = shift.times
    later = Memory([], [], [])
    things = shifted_things(shift, memory)
    later.things = {number: things[number] for number in sorted(things)}
    later.frames = []
    for frame in memory.frames:
        held = {name: shifted_number(shift, frame.held[name]) for name in frame.held}
        later.frames.append(Frame(frame.function, held))
    later.faint = {name: shifted_number(shift, memory.faint[name]) for name in memory.faint}
    for size in SIZES:
        if memory.free[size] or memory.behind[size] > 0 or size in shift.plan.fronts:
            later.free[size], later.behind[size] = shifted_pool(shift, memory, size)
    later.kept = shifted_kept(shift, memory)
    later.gone = shifted_gone(period, memory, times)
    later.bulk = bulk_of(later)
    later.births = memory.births + shift.births
    for name in memory.made:
        later.made[name] = memory.made[name] + times * (period.behind.made[name] - period.begin.made[name])
    later.done = memory.done + times * (period.behind.done - period.begin.done)
    later.worked = memory.worked
    return later


def raise_sunk(held, others):
    """Give the variables that refer to what has sunk the values that they have at the end of the period."""
    for name in list(held):
        if held[name] == RETIRED:
            held[name] = others[name]


def with_sunk(later, memory, shift):
    """What a memory of `shifted_memory` is one period later if what has sunk is not retired."""
    behind = shift.period.behind
    core = {number: True for number in shift.period.nexts}
    things = {number: behind.things[number] for number in behind.things if number not in core}
    for number in later.things:
        thing = later.things[number]
        if RETIRED in thing.fields:
            # No reference to an object that has sunk begins or ends: it is as at the end of the period.
            others = behind.things[number].fields
            fields = tuple([other if value == RETIRED else value for value, other in zip(thing.fields, others)])
            thing = Thing(thing.kind, thing.tag, fields, thing.generation, thing.home)
        things[number] = thing
    later.things = {number: things[number] for number in sorted(things)}
    raise_sunk(later.frames[0].held, behind.frames[0].held)
    raise_sunk(later.faint, behind.faint)
    later.kept = {shifted_number(shift, number): True for number in memory.kept}
    later.gone = memory.gone
    later.bulk = bulk_of(later)
    return later
