"""Replays: what a simple statement does where it stands, with the numbers and addresses that there are there."""

from roundheap.doing import Doer, memory_of
from roundheap.memory import drop_thing
from roundheap.sights import sight_at
from roundheap.sweeping import do_simple


class Replay:
    """A simple statement that is done anew where it was found.

    `earlier` is the memory ahead of it; `fine` tells whether it does not fail.
    """

    def __init__(self, course, found):
        self.statement = statement_at_spot(found)
        self.earlier = sight_at(course, found).memory
        doer = Doer(course.world, self.earlier, True)
        # The run itself has done this, while nothing that is retired now was retired.
        doer.wary = False
        self.doer = doer
        self.fine = do_simple(doer, self.statement)


def statement_at_spot(found):
    """The simple statement that stands where a spot was found; None if none does."""
    text = found.passage.text
    if found.index == len(text) or text[found.index][0] in ("call", "ifnil", "ifsame", "repeat"):
        return None
    return text[found.index]


def memory_behind_replay(replay):
    return memory_of(replay.doer)


def dropped_in(replay):
    """(number, address) of the objects that are freed, in the order in which their addresses go to the pools."""
    rows = []
    for action, number, _ in replay.doer.tape.changes:
        if action == drop_thing:
            rows.append((number, thing_of(replay, number).home))
    return rows


def thing_of(replay, number):
    """An object as it was ahead of the statement."""
    return replay.earlier.things[number]
