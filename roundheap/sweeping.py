"""Collections: which objects are freed by them, and how the others age."""

from roundheap.doing import ACTIONS, change_fields, free, mark_now, memory_of, touch
from roundheap.errors import Grown
from roundheap.memory import RETIRED, Thing, put_thing, record
from roundheap.world import level_of


class Swept:
    """A collection that was done: its level `tier`, the `victims` that it freed itself, and the marks at its ends.

    All freed objects are those from `first` to `last` - 1 among the falls; `written` items were written before it.
    """

    def __init__(self, tier, victims, begin, first, written):
        self.tier = tier
        self.victims = victims
        self.begin = begin
        self.end = begin
        self.first = first
        self.last = first
        self.written = written


def held_by_variables(memory):
    """The objects to which variables of open calls refer."""
    return [value for frame in memory.frames for value in frame.held.values() if value is not None and value != RETIRED]


def reached_from(memory, roots):
    """A dict with all objects that can be reached from some."""
    reached = {number: True for number in roots}
    ways = list(reached)
    while ways:
        number = ways.pop()
        for other in memory.things[number].fields:
            if other is not None and other != RETIRED and other not in reached:
                reached[other] = True
                ways.append(other)
    return reached


def young_in(memory, level):
    """The objects in the generations up to a level, ascending: none is younger than one that was made later."""
    young = []
    for number in reversed(list(memory.things)):
        if memory.things[number].generation > level:
            break
        young.append(number)
    return young[::-1]


def lost_among(doer, young):
    """The objects among the younger ones to which nothing leads but themselves."""
    things = memory_of(doer).things
    counts = {number: doer.counts[number] for number in young}
    for number in young:
        for other in things[number].fields:
            if other in counts:
                counts[other] -= 1
    reached = {number: True for number in young if counts[number] > 0}
    ways = list(reached)
    while ways:
        number = ways.pop()
        for other in things[number].fields:
            if other in counts and other not in reached:
                reached[other] = True
                ways.append(other)
    return [number for number in young if number not in reached]


def lost_in(doer, level):
    """The objects that a collection of a level frees itself, ascending."""
    memory = memory_of(doer)
    if level < doer.world.oldest:
        return lost_among(doer, young_in(memory, level))
    reached = reached_from(memory, held_by_variables(memory) + list(memory.kept))
    return [number for number in memory.things if number not in reached]


def is_unsure(memory):
    """Whether an object that refers to a retired one cannot be reached without going through retired ones."""
    if memory.gone[0] == 0:
        return False
    reached = reached_from(memory, held_by_variables(memory))
    return any([RETIRED in memory.things[number].fields and number not in reached for number in memory.things])


def end_among(doer, lost):
    """End all references among some objects."""
    marked = {number: True for number in lost}
    for number in lost:
        fields = memory_of(doer).things[number].fields
        for other in fields:
            if other in marked:
                doer.counts[other] -= 1
        change_fields(doer, number, tuple([None if other in marked else other for other in fields]))


def age(doer, level):
    memory = memory_of(doer)
    older = min(level + 1, doer.world.oldest)
    for number in young_in(memory, older - 1):
        thing = memory.things[number]
        touch(doer, number)
        record(doer.tape, put_thing, number, Thing(thing.kind, thing.tag, thing.fields, older, thing.home))


def collect(doer, level):
    if doer.wary and level == doer.world.oldest and is_unsure(memory_of(doer)):
        raise Grown(doer.spot)
    lost = lost_in(doer, level)
    swept = Swept(level, lost, mark_now(doer), len(doer.falls), len(doer.written))
    end_among(doer, lost)
    for number in lost:
        free(doer, number)
    age(doer, level)
    swept.end = mark_now(doer)
    swept.last = len(doer.falls)
    doer.sweeps.append(swept)


def level_due(world, memory, statement):
    """The level of the collection that is run with a statement, all else of which is done; None if none is run."""
    if statement[0] == "collect":
        return statement[1]
    number, rest = divmod(memory.births, world.pace)
    return level_of(world, number) if statement[0] == "new" and rest == 0 else None


def do_simple(doer, statement):
    """Do a simple statement, and the numbered collection that may follow it; whether it does not fail."""
    word = statement[0]
    if word != "collect":
        action = ACTIONS[word]
        if not action(doer, statement):
            return False
    level = level_due(doer.world, memory_of(doer), statement)
    if level is not None:
        collect(doer, level)
    return True
