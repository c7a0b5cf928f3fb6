"""Spots: which values are spots of a program, and what of a course stands there."""

from roundheap.checks import is_count
from roundheap.errors import InvalidSpot, NotReached
from roundheap.periods import folded


class Fold:
    """Rounds of a repeat that are told by a period of it, done so many times more; `number` is the round itself."""

    def __init__(self, turns, times, number):
        self.turns = turns
        self.times = times
        self.number = number


class Found:
    """Where a spot is: a block that was gone through, an index in it, and the folds around it, inwards."""

    def __init__(self, passage, index, folds):
        self.passage = passage
        self.index = index
        self.folds = folds


def block_in(world, statement, value, at):
    """(block, index behind it) for what stands in a spot from an index on, within a statement; None if nothing may."""
    word = statement[0]
    if word == "call":
        return (world.tasks[statement[2]].text, at)
    if word == "repeat":
        return (statement[2], at + 1) if value[at] < statement[1] else None
    if word == "ifnil" or word == "ifsame":
        return (statement[value[at] - 2], at + 1) if value[at] < 2 else None
    return None


def is_spot(world, value):
    """Whether a value of any kind is a spot of a program."""
    if not isinstance(value, tuple) or not all([is_count(number) for number in value]):
        return False
    block = world.text
    at = 0
    while at < len(value):
        index = value[at]
        at += 1
        if at == len(value):
            return bool(index <= len(block))
        if index >= len(block):
            return False
        inner = block_in(world, block[index], value, at)
        if inner is None:
            return False
        block, at = inner
    return False


def find_spot(course, spot):
    """Where a spot of the program is in a course; NotReached if the course does not come there."""
    passage = course.root
    folds = []
    at = 0
    while True:
        index = spot[at]
        at += 1
        if index >= len(passage.marks):
            raise NotReached(spot)
        if at == len(spot):
            return Found(passage, index, folds)
        statement = passage.text[index]
        if statement[0] == "repeat":
            turns = passage.inner[index]
            told = folded(turns, spot[at])
            if told is None:
                raise NotReached(spot)
            if told[0] > 0:
                folds.append(Fold(turns, told[0], spot[at]))
            passage = turns.rounds[told[1]]
            at += 1
        else:
            branch = passage.inner[index]
            passage = branch.passage
            if statement[0] != "call":
                if branch.way != spot[at]:
                    raise NotReached(spot)
                at += 1


def found_spot(course, spot):
    """Where a value of any kind is as a spot."""
    if not is_spot(course.world, spot):
        raise InvalidSpot(spot)
    return find_spot(course, spot)


def found_turns(course, spot):
    """(where, repeat) of the repeat that stands at a spot; the value may be of any kind."""
    found = found_spot(course, spot)
    if found.index == len(found.passage.text) or found.passage.text[found.index][0] != "repeat":
        raise InvalidSpot(spot)
    return (found, found.passage.inner[found.index])
