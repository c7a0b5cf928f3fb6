"""Stepping: what there is and what happens at a spot, and which steps are around it."""

from roundheap.checks import is_integer, is_within
from roundheap.errors import InvalidNumber, InvalidSpot
from roundheap.replays import Replay, dropped_in, memory_behind_replay, statement_at_spot
from roundheap.sights import sight_at
from roundheap.spots import found_spot
from roundheap.tallies import far_spot, item_at, tally_of_word, total_at
from roundheap.telling import told_values

MOST_STEPS = 100


def frames(run, spot):
    """The list of (function, variables) of the open calls at a spot."""
    memory = sight_at(run._course, found_spot(run._course, spot)).memory
    return [(frame.function, told_values(frame.held)) for frame in memory.frames]


def step_at(run, spot):
    """(statement, made, freed, entries, level) of the simple statement at a spot; None if it fails there."""
    found = found_spot(run._course, spot)
    statement = statement_at_spot(found)
    if statement is None:
        raise InvalidSpot(spot)
    replay = Replay(run._course, found)
    if not replay.fine:
        return None
    doer = replay.doer
    level = doer.sweeps[0].tier if doer.sweeps else None
    return (statement, made_in(replay), dropped_in(replay), list(doer.written), level)


def made_in(replay):
    """(number, address) of the object that a statement makes; None if it makes none."""
    if replay.statement[0] != "new":
        return None
    number = replay.earlier.births
    return (number, memory_behind_replay(replay).things[number].home)


def steps_ahead(run, spot):
    """How many steps are ahead of a spot; the value may be of any kind."""
    course = run._course
    found = found_spot(course, spot)
    return total_at(tally_of_word(course, None), found.passage.marks[found.index], found.folds)


def spot_of_step(run, number):
    """The spot of the step with a number; None if there is none."""
    item = item_at(tally_of_word(run._course, None), number) if number >= 0 else None
    if item is None:
        return None
    event, ways = item
    return far_spot(event.deed.spot, ways)


def walk(run, spot, many):
    """The spots of the next steps that are not ahead of a spot, up to so many."""
    first = steps_ahead(run, spot)
    if not is_within(many, 0, MOST_STEPS):
        raise InvalidNumber(many)
    spots = [spot_of_step(run, number) for number in range(first, first + many)]
    return [other for other in spots if other is not None]


def moved_on(run, spot, many):
    """The spot of the step that is so many steps behind the first one that is not ahead of a spot; None for none."""
    first = steps_ahead(run, spot)
    if not is_integer(many):
        raise InvalidNumber(many)
    return spot_of_step(run, first + many)
