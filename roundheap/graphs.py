"""The references of a view, and what they reach."""

from roundheap.checks import is_integer, is_key
from roundheap.errors import InvalidArgument, InvalidNumber
from roundheap.world import names_of


def check_view(view):
    if view._memory.gone[0] > 0:
        raise InvalidArgument("view")


def check_number(view, number):
    if not is_integer(number) or number not in view._memory.things:
        raise InvalidNumber(number)


def is_list_of_different(value, known):
    """Whether a value of any kind is a list of different ones of some keys."""
    if not isinstance(value, list) or not all([is_key(part) and part in known for part in value]):
        return False
    return len({part: True for part in value}) == len(value)


def rows_in(view):
    """The list of (reference, number of the object to which it leads)."""
    memory = view._memory
    rows = []
    for call, frame in enumerate(memory.frames):
        for index, name in enumerate(names_of(view._world, frame.function)):
            if frame.held[name] is not None:
                rows.append((("variable", call, index), frame.held[name]))
    for number in memory.things:
        thing = memory.things[number]
        for name, value in zip(view._world.sorts[thing.kind].fields, thing.fields):
            if value is not None:
                rows.append((("field", number, name), value))
    return rows


def begin_of(reference):
    """The object of which a reference is a field; None for a variable."""
    return None if reference[0] == "variable" else reference[1]


def ways_from(rows):
    """A dict from objects, None for variables, to the lists of their rows."""
    ways = {}
    for row in rows:
        ways.setdefault(begin_of(row[0]), []).append(row)
    return ways


def reached_by(rows, barred):
    """For each object that variables reach without going through a barred one: the row by which it was reached."""
    ways = ways_from(rows)
    found = {}
    front = [None]
    while front:
        further = []
        for begin in front:
            for row in ways.get(begin, []):
                if row[1] not in found and row[1] != barred:
                    found[row[1]] = row
                    further.append(row[1])
        front = further
    return found


def leading_to(rows, number):
    """A dict with the objects from which fields lead to an object, itself too."""
    back = {}
    for reference, target in rows:
        if reference[0] == "field":
            back.setdefault(target, []).append(reference[1])
    found = {number: True}
    ways = [number]
    while ways:
        last = ways.pop()
        for other in back.get(last, []):
            if other not in found:
                found[other] = True
                ways.append(other)
    return found
