"""States: what the future of a run depends on, as a key that is the same for the same states."""

from roundheap.memory import RETIRED

NIL = -2


def indexes_in(memory):
    """What stands for each value in a state: the place of an object in the order of the numbers."""
    indexes = {number: index for index, number in enumerate(memory.things)}
    indexes[None] = NIL
    indexes[RETIRED] = RETIRED
    return indexes


def state_of(memory, phases, known):
    """The state of a memory; `known` gives each row of an object a number, the same for the same rows."""
    indexes = indexes_in(memory)
    rows = []
    for number in memory.things:
        thing = memory.things[number]
        fields = tuple([indexes[value] for value in thing.fields])
        row = (thing.kind, thing.tag, thing.generation, number in memory.kept, fields)
        rows.append(known.setdefault(row, len(known)))
    calls = []
    for frame in memory.frames:
        calls.append(tuple([(name, indexes[frame.held[name]]) for name in frame.held]))
    faint = tuple([indexes[memory.faint[name]] for name in memory.faint])
    return (memory.births % phases, tuple(calls), faint, tuple(rows))
