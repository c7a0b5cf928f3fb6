"""How what a memory has is told to those who ask for it."""

from roundheap.checks import is_integer, is_one_of, is_size
from roundheap.errors import InvalidName, InvalidNumber
from roundheap.memory import RETIRED, pool_of


def told_value(value):
    return "retired" if value == RETIRED else value


def told_values(held):
    return {name: told_value(held[name]) for name in held}


def told_name(memory, name):
    """The value of a variable of the innermost open call, or of a weak variable; the name may be of any kind."""
    for held in (memory.frames[-1].held, memory.faint):
        if is_one_of(name, held):
            return told_value(held[name])
    raise InvalidName(name)


def thing_of(memory, number):
    """An object; the number may be of any kind."""
    if not is_integer(number) or number not in memory.things:
        raise InvalidNumber(number)
    return memory.things[number]


def told_row(world, memory, number):
    """(class, tag, fields, generation, address) of an object; the number may be of any kind."""
    thing = thing_of(memory, number)
    names = world.sorts[thing.kind].fields
    fields = {name: told_value(value) for name, value in zip(names, thing.fields)}
    return (thing.kind, thing.tag, fields, thing.generation, thing.home)


def told_pool(memory, size):
    if not is_size(size):
        raise InvalidNumber(size)
    return pool_of(memory, size)
