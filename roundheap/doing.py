"""How simple statements are done: references that begin and end, objects that are made and freed."""

from roundheap.errors import Grown
from roundheap.memory import (
    RETIRED, Tape, Thing, copied_memory, count_entry, drop_thing, first_home, make_thing, mark_of, put_faint,
    put_thing, put_variable, record, take_home,
)


class Doer:
    """What does statements: a memory that is changed, how often each object is referred to, what was touched.

    `written` are the items of the log: entries, and rows for what was not done one by one. `falls` are the objects
    in the order in which their freeing began, with their classes; `sweeps` are the collections that were done. One
    that is `wary` does not do a collection that may concern retired objects.
    """

    def __init__(self, world, memory, keeps):
        self.world = world
        self.tape = Tape(copied_memory(memory), keeps)
        self.counts = counted(memory)
        self.touches = []
        self.written = []
        self.falls = []
        self.sweeps = []
        self.wary = True
        self.spot = ()


def counted(memory):
    """How many references there are to each object."""
    counts = {number: 1 if number in memory.kept else 0 for number in memory.things}
    values = [value for frame in memory.frames for value in frame.held.values()]
    for number in memory.things:
        values.extend(memory.things[number].fields)
    for value in values:
        if value is not None and value != RETIRED:
            counts[value] += 1
    return counts


def memory_of(doer):
    return doer.tape.memory


def mark_now(doer):
    return mark_of(doer.tape)


def touch(doer, number):
    if number == RETIRED:
        raise Grown(doer.spot)
    if number is not None:
        doer.touches.append(number)


def gain(doer, number):
    """A reference to an object begins."""
    touch(doer, number)
    if number is not None:
        doer.counts[number] += 1


def lose(doer, number):
    """A reference to an object ends; the object is freed with its last one."""
    touch(doer, number)
    if number is not None:
        doer.counts[number] -= 1
        if doer.counts[number] == 0:
            free(doer, number)


def write(doer, word, tag):
    doer.written.append((word, tag))
    record(doer.tape, count_entry, None, None)


def begin_freeing(doer, number):
    memory = memory_of(doer)
    thing = memory.things[number]
    touch(doer, number)
    doer.falls.append((number, thing.kind))
    if doer.world.sorts[thing.kind].final:
        write(doer, "final", thing.tag)
    for name in list(memory.faint):
        if memory.faint[name] == number:
            record(doer.tape, put_faint, name, None)


def free(doer, number):
    """Free an object and all that this frees; a stack of its own, for a row of objects may be long."""
    begin_freeing(doer, number)
    ways = [(number, 0)]
    while ways:
        number, index = ways.pop()
        fields = memory_of(doer).things[number].fields
        if index == len(fields):
            record(doer.tape, drop_thing, number, None)
            del doer.counts[number]
            continue
        ways.append((number, index + 1))
        other = fields[index]
        touch(doer, other)
        if other is not None:
            doer.counts[other] -= 1
            if doer.counts[other] == 0:
                begin_freeing(doer, other)
                ways.append((other, 0))


def value_of(doer, name):
    return memory_of(doer).frames[-1].held[name]


def set_variable(doer, depth, name, number):
    old = memory_of(doer).frames[depth].held[name]
    gain(doer, number)
    record(doer.tape, put_variable, (depth, name), number)
    lose(doer, old)


def assign(doer, name, number):
    """Give a variable of the innermost open call a value."""
    set_variable(doer, len(memory_of(doer).frames) - 1, name, number)


def field_index(doer, number, field):
    """The index of a field of an object; -1 if the object is nil or has no such field."""
    touch(doer, number)
    if number is None:
        return -1
    fields = doer.world.sorts[memory_of(doer).things[number].kind].fields
    return fields.index(field) if field in fields else -1


def set_field(doer, number, index, value):
    thing = memory_of(doer).things[number]
    old = thing.fields[index]
    gain(doer, value)
    change_fields(doer, number, thing.fields[:index] + (value,) + thing.fields[index + 1:])
    lose(doer, old)


def change_fields(doer, number, fields):
    thing = memory_of(doer).things[number]
    changed = Thing(thing.kind, thing.tag, fields, thing.generation, thing.home)
    record(doer.tape, put_thing, number, changed)


def do_new(doer, statement):
    """Make an object; the collection that may follow is not done here."""
    _, name, sort = statement
    memory = memory_of(doer)
    number = memory.births
    home = first_home(memory, doer.world.sorts[sort].size)
    nothing = tuple([None for _ in doer.world.sorts[sort].fields])
    record(doer.tape, take_home, home[0], None)
    record(doer.tape, make_thing, number, Thing(sort, sort, nothing, 0, home))
    doer.counts[number] = 0
    assign(doer, name, number)
    return True


def do_copy(doer, statement):
    _, name, other = statement
    assign(doer, name, value_of(doer, other))
    return True


def do_clear(doer, statement):
    assign(doer, statement[1], None)
    return True


def do_load(doer, statement):
    _, name, other, field = statement
    number = value_of(doer, other)
    index = field_index(doer, number, field)
    if index == -1:
        return False
    assign(doer, name, memory_of(doer).things[number].fields[index])
    return True


def do_store(doer, statement):
    _, name, field, other = statement
    number = value_of(doer, name)
    index = field_index(doer, number, field)
    if index == -1:
        return False
    set_field(doer, number, index, value_of(doer, other))
    return True


def do_wipe(doer, statement):
    _, name, field = statement
    number = value_of(doer, name)
    index = field_index(doer, number, field)
    if index == -1:
        return False
    set_field(doer, number, index, None)
    return True


def do_tag(doer, statement):
    _, name, tag = statement
    number = value_of(doer, name)
    touch(doer, number)
    if number is None:
        return False
    thing = memory_of(doer).things[number]
    record(doer.tape, put_thing, number, Thing(thing.kind, tag, thing.fields, thing.generation, thing.home))
    return True


def do_emit(doer, statement):
    number = value_of(doer, statement[1])
    touch(doer, number)
    write(doer, "emit", None if number is None else memory_of(doer).things[number].tag)
    return True


def do_weak(doer, statement):
    _, name, other = statement
    number = value_of(doer, other)
    touch(doer, number)
    record(doer.tape, put_faint, name, number)
    return True


def do_get(doer, statement):
    _, name, other = statement
    assign(doer, name, memory_of(doer).faint[other])
    return True


# A collection is done elsewhere.
ACTIONS = {
    "new": do_new, "copy": do_copy, "clear": do_clear, "load": do_load, "store": do_store, "wipe": do_wipe,
    "tag": do_tag, "emit": do_emit, "weak": do_weak, "get": do_get,
}
