"""The memory of a run at one spot, and the changes of which the doing of statements consists."""

RETIRED = -1
SIZES = (1, 2, 3, 4, 5, 6, 7, 8)
STRETCH = 256


class Thing:
    """An object; it never changes. Its fields are numbers of objects, None for nil, or RETIRED."""

    def __init__(self, kind, tag, fields, generation, home):
        self.kind = kind
        self.tag = tag
        self.fields = fields
        self.generation = generation
        self.home = home


class Frame:
    """An open call: the name of its function, None for the body, and the values of its variables."""

    def __init__(self, function, held):
        self.function = function
        self.held = held


class Memory:
    """What there is at one spot of a run.

    `things` are the objects that are neither freed nor retired, ascending by number; `kept` those of them to which
    retired ones refer. The free addresses of a pool stand in `free`, the first one to be taken last. `births` counts
    the objects that were made, `made` those of each class, `done` the simple statements; `worked` counts only those
    that were done one by one, `logged` the items of the log.
    """

    def __init__(self, names, faint, sorts):
        self.things = {}
        self.frames = [Frame(None, {name: None for name in names})]
        self.faint = {name: None for name in faint}
        self.free = {size: [] for size in SIZES}
        self.behind = {size: 0 for size in SIZES}
        self.kept = {}
        self.gone = (0, 0)
        self.bulk = 0
        self.births = 0
        self.made = {name: 0 for name in sorts}
        self.done = 0
        self.worked = 0
        self.logged = 0
        self.top = (0, 0)


def fill_memory(memory, _, other):
    """Make a memory what another one is."""
    memory.things = dict(other.things)
    memory.frames = [Frame(frame.function, dict(frame.held)) for frame in other.frames]
    memory.faint = dict(other.faint)
    memory.free = {size: list(other.free[size]) for size in SIZES}
    memory.behind = dict(other.behind)
    memory.kept = dict(other.kept)
    memory.gone = other.gone
    memory.bulk = other.bulk
    memory.births = other.births
    memory.made = dict(other.made)
    memory.done = other.done
    memory.worked = other.worked
    memory.logged = other.logged
    memory.top = other.top


def copied_memory(memory):
    copy = Memory([], [], [])
    fill_memory(copy, None, memory)
    return copy


def extent_of(memory):
    """How many objects and how many units there are, retired ones counted."""
    many, units = memory.gone
    return (len(memory.things) + many, memory.bulk + units)


def higher(one, other):
    """The greater ones of two pairs of numbers of objects and of units."""
    return (max(one[0], other[0]), max(one[1], other[1]))


def make_thing(memory, number, thing):
    memory.things[number] = thing
    memory.bulk += thing.home[0]
    memory.births += 1
    memory.made[thing.kind] += 1


def put_thing(memory, number, thing):
    memory.things[number] = thing


def drop_thing(memory, number, _):
    """Take an object out, and put its address in front of its pool."""
    size, k = memory.things[number].home
    del memory.things[number]
    memory.bulk -= size
    memory.free[size].append(k)


def take_home(memory, size, _):
    """Take the first address out of a pool."""
    if memory.free[size]:
        memory.free[size].pop()
    else:
        memory.behind[size] += 1


def first_home(memory, size):
    return (size, memory.free[size][-1] if memory.free[size] else memory.behind[size])


def put_variable(memory, place, number):
    depth, name = place
    memory.frames[depth].held[name] = number


def put_faint(memory, name, number):
    memory.faint[name] = number


def add_frame(memory, function, held):
    memory.frames.append(Frame(function, dict(held)))


def end_frame(memory, _function, _held):
    memory.frames.pop()


def count_entry(memory, _key, _value):
    memory.logged += 1


def count_step(memory, _key, _value):
    memory.done += 1
    memory.worked += 1
    memory.top = higher(memory.top, extent_of(memory))


class Tape:
    """All changes of a memory one after the other, so that it can be told how it was at any mark among them.

    One that does not keep its changes tells the memory as it is, and nothing else.
    """

    def __init__(self, memory, keeps):
        self.memory = memory
        self.keeps = keeps
        self.changes = []
        self.stops = [copied_memory(memory)] if keeps else []


def record(tape, action, key, value):
    """Do a change, and remember it."""
    action(tape.memory, key, value)
    if not tape.keeps:
        return
    tape.changes.append((action, key, value))
    if len(tape.changes) % STRETCH == 0:
        tape.stops.append(copied_memory(tape.memory))


def mark_of(tape):
    return len(tape.changes)


def memory_at(tape, mark):
    """The memory as it was at a mark, in a copy of its own."""
    stop = mark // STRETCH
    memory = copied_memory(tape.stops[stop])
    for action, key, value in tape.changes[stop * STRETCH:mark]:
        action(memory, key, value)
    return memory


class Reel:
    """A tape that is gone along from its beginning; `memory` is as it was at the mark."""

    def __init__(self, tape):
        self.tape = tape
        self.mark = 0
        self.memory = copied_memory(tape.stops[0])


def wind_to(reel, mark):
    """Go along to a mark that is not behind."""
    for action, key, value in reel.tape.changes[reel.mark:mark]:
        action(reel.memory, key, value)
    reel.mark = mark


def pool_of(memory, size):
    """(free, behind) of a pool: the first address to be taken first, and free as short as possible."""
    free = memory.free[size][::-1]
    behind = memory.behind[size]
    while free and free[-1] == behind - 1:
        free.pop()
        behind -= 1
    return (free, behind)
