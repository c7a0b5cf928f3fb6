"""Collections: which objects are freed by them, and how the others age."""

from roundheap.doing import ACTIONS, change_fields, free, memory_of, touch
from roundheap.errors import Grown
from roundheap.memory import RETIRED, Thing, put_thing, record
from roundheap.world import level_of


def held_by_variables(memory):
    """The objects to which variables of open calls refer."""
    return [value for frame in memory.frames for value in frame.held.values() if value is not None and value != RETIRED]


def reached_from(memory, roots):
    """A dict with all objects that can be reached from some."""
    reached = {number: True for number in roots}
    ways = list(reached)
    while ways:
        number = ways.pop()
        for other in memory.things[number].fields:
            if other is not None and other != RETIRED and other not in reached:
                reached[other] = True
                ways.append(other)
    return reached


def lost_in(memory, level):
    """The objects that a collection of a level frees itself, ascending."""
    roots = held_by_variables(memory) + list(memory.kept)
    roots.extend([number for number in memory.things if memory.things[number].generation > level])
    reached = reached_from(memory, roots)
    return [number for number in memory.things if memory.things[number].generation <= level and number not in reached]


def is_unsure(memory):
    """Whether an object that refers to a retired one cannot be reached without going through retired ones."""
    if memory.gone[0] == 0:
        return False
    reached = reached_from(memory, held_by_variables(memory))
    return any([RETIRED in memory.things[number].fields and number not in reached for number in memory.things])


def end_among(doer, lost):
    """End all references among some objects."""
    marked = {number: True for number in lost}
    for number in lost:
        fields = memory_of(doer).things[number].fields
        for other in fields:
            if other in marked:
                doer.counts[other] -= 1
        change_fields(doer, number, tuple([None if other in marked else other for other in fields]))


def age(doer, level):
    memory = memory_of(doer)
    older = min(level + 1, doer.world.oldest)
    for number in list(memory.things):
        thing = memory.things[number]
        if thing.generation <= level and thing.generation != older:
            touch(doer, number)
            record(doer.tape, put_thing, number, Thing(thing.kind, thing.tag, thing.fields, older, thing.home))


def collect(doer, level):
    memory = memory_of(doer)
    if level == doer.world.oldest and is_unsure(memory):
        raise Grown(doer.spot)
    lost = lost_in(memory, level)
    end_among(doer, lost)
    for number in lost:
        free(doer, number)
    age(doer, level)


def do_simple(doer, statement):
    """Do a simple statement, and the numbered collection that may follow it; whether it does not fail."""
    word = statement[0]
    if word == "collect":
        collect(doer, statement[1])
        return True
    action = ACTIONS[word]
    if not action(doer, statement):
        return False
    number, rest = divmod(memory_of(doer).births, doer.world.pace)
    if word == "new" and rest == 0:
        collect(doer, level_of(doer.world, number))
    return True
