"""Trials: which collection would free an object if it were run at a spot."""

from roundheap.checks import is_integer
from roundheap.doing import Doer, memory_of
from roundheap.errors import Grown
from roundheap.sweeping import collect, held_by_variables, reached_from


class Trial:
    """The memory at a spot, its dead objects `doomed`, and what collections of the levels that were tried leave."""

    def __init__(self, sight):
        self.world = sight.world
        self.memory = sight.memory
        live = reached_from(self.memory, held_by_variables(self.memory) + list(self.memory.kept))
        self.doomed = [number for number in self.memory.things if number not in live]
        self.results = {}


def left_by(trial, level):
    """The objects that a collection would leave; None if it would touch a retired one."""
    if level not in trial.results:
        doer = Doer(trial.world, trial.memory, False)
        try:
            collect(doer, level)
            trial.results[level] = memory_of(doer).things
        except Grown:
            trial.results[level] = None
    return trial.results[level]


def level_in(trial, number):
    """The least level of a collection that would free a dead object; None if one touches a retired object first."""
    level = 0
    things = left_by(trial, level)
    while things is not None and number in things:
        level += 1
        things = left_by(trial, level)
    return None if things is None else level


def referrer(things, number):
    """An object with a field that refers to another one."""
    for other in things:
        if number in things[other].fields:
            return other
    return None


def walk_to(trial, number, level):
    """A walk that shows why no collection of a lower level would free a dead object."""
    things = left_by(trial, level - 1)
    # What such a collection leaves is kept by a circle: going back from object to object, one comes to it.
    walk = [number]
    while walk[0] not in walk[1:]:
        walk.insert(0, referrer(things, walk[0]))
    if trial.memory.things[walk[0]].generation >= level:
        return walk
    return way_to(trial.memory.things, walk[0], level) + walk


def way_to(things, number, level):
    """The objects on a way to one, itself left out, from one in a generation of at least a level."""
    came = {other: None for other in things if things[other].generation >= level}
    ways = list(came)
    while ways and number not in came:
        other = ways.pop()
        for value in things[other].fields:
            if value in things and value not in came:
                came[value] = other
                ways.append(value)
    way = []
    last = came[number]
    while last is not None:
        way.insert(0, last)
        last = came[last]
    return way


def leads_to(trial, number, level, walk):
    """Whether a value of any kind is a walk that shows why no collection of a lower level would free an object."""
    things = trial.memory.things
    if not isinstance(walk, list) or not all([is_integer(other) and other in things for other in walk]):
        return False
    if len(walk) < 2 or walk[-1] != number or things[walk[0]].generation < level:
        return False
    if not all([other in things[one].fields for one, other in zip(walk, walk[1:])]):
        return False
    return len({other: True for other in walk}) < len(walk)
