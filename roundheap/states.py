"""States: what the future of a run depends on, as a key that is the same for the same states."""

from roundheap.memory import RETIRED

NIL = -2
MADE = -3


def indexes_in(memory):
    """What stands for each value in a state: the place of an object in the order of the numbers."""
    indexes = {number: index for index, number in enumerate(memory.things)}
    indexes[None] = NIL
    indexes[RETIRED] = RETIRED
    return indexes


def rows_of(memory, numbers, indexes, known):
    """What some objects are like; `known` gives each row of an object a number, the same for the same rows."""
    rows = []
    for number in numbers:
        thing = memory.things[number]
        fields = tuple([indexes[value] for value in thing.fields])
        row = (thing.kind, thing.tag, thing.generation, number in memory.kept, fields)
        rows.append(known.setdefault(row, len(known)))
    return tuple(rows)


def values_of(memory, indexes):
    """To what the variables of all open calls and the weak variables refer."""
    calls = []
    for frame in memory.frames:
        calls.append(tuple([(name, indexes[frame.held[name]]) for name in frame.held]))
    return (tuple(calls), tuple([indexes[memory.faint[name]] for name in memory.faint]))


def state_of(memory, phases, known):
    """The state of a memory."""
    indexes = indexes_in(memory)
    rows = rows_of(memory, memory.things, indexes, known)
    return (memory.births % phases, values_of(memory, indexes), rows)


class Likes:
    """The rounds of a repeat behind which variables, and how many objects were made, were alike.

    `rounds` leads from the rows of all objects to the number of rounds. The rows behind the `first` one are not
    reckoned until there is a second one: mostly there is none.
    """

    def __init__(self, first):
        self.first = first
        self.rounds = {}


def outline_of(memory, phases):
    """What of a state is seen soon: states with different outlines are different."""
    return (memory.births % phases, values_of(memory, indexes_in(memory)))


def all_rows(memory, known):
    return rows_of(memory, memory.things, indexes_in(memory), known)


def old_state(memory, begun, known):
    """The state of the objects whose numbers are less than one, as if all others were the same."""
    indexes = indexes_in(memory)
    old = []
    for number in memory.things:
        if number < begun:
            old.append(number)
        else:
            indexes[number] = MADE
    return (values_of(memory, indexes), rows_of(memory, old, indexes, known))
