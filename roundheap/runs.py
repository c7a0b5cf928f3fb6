"""Runs of programs, and views of their spots."""

from roundheap.checks import is_integer, is_one_of, is_size
from roundheap.course import Course
from roundheap.errors import InvalidName, InvalidNumber
from roundheap.memory import RETIRED, Memory, extent_of, pool_of
from roundheap.sights import row_of_parts, sight_at
from roundheap.spots import found_spot, found_turns
from roundheap.words import Making, Word
from roundheap.world import World


class Run:
    """The whole run of a program; repeats whose later rounds are known are not done to their end."""

    def __init__(self, program):
        world = World(program)
        memory = Memory(world.names, world.faint, list(world.sorts))
        self._course = Course(world, memory, world.text, True)

    def ended(self):
        failed = self._course.failed
        return ("done",) if failed is None else ("failed", failed)

    def last_spot(self):
        failed = self._course.failed
        return (len(self._course.root.text),) if failed is None else failed

    def work(self):
        return self._course.labor

    def rhythm(self, spot):
        _, turns = found_turns(self._course, spot)
        if turns.kind == "over":
            return ("over", len(turns.rounds))
        return (turns.kind, turns.first, turns.period, len(turns.rounds))

    def view(self, spot):
        return View(sight_at(self._course, found_spot(self._course, spot)))


def told_value(value):
    """A value as views tell it."""
    return "retired" if value == RETIRED else value


def told_values(held):
    return {name: told_value(held[name]) for name in held}


class View:
    """What there is at a spot of a run; it is made by `Run.view`."""

    def __init__(self, sight):
        self._world = sight.world
        self._memory = sight.memory
        self._parts = sight.parts

    def variables(self):
        return told_values(self._memory.frames[-1].held)

    def weak(self):
        return told_values(self._memory.faint)

    def value(self, name):
        for held in (self._memory.frames[-1].held, self._memory.faint):
            if is_one_of(name, held):
                return told_value(held[name])
        raise InvalidName(name)

    def objects(self):
        return list(self._memory.things)

    def row(self, number):
        thing = thing_of(self._memory, number)
        names = self._world.sorts[thing.kind].fields
        fields = {name: told_value(value) for name, value in zip(names, thing.fields)}
        return (thing.kind, thing.tag, fields, thing.generation, thing.home)

    def address(self, number):
        return thing_of(self._memory, number).home

    def log(self):
        return Word(Making(row_of_parts(self._parts), 0, 1))

    def news(self):
        return self._memory.births

    def collections(self):
        return self._memory.births // self._world.pace

    def units(self):
        return extent_of(self._memory)[1]

    def count(self):
        return extent_of(self._memory)[0]

    def retired(self):
        return self._memory.gone

    def peak(self):
        return self._memory.top

    def steps(self):
        return self._memory.done

    def pool(self, size):
        if not is_size(size):
            raise InvalidNumber(size)
        return pool_of(self._memory, size)


def thing_of(memory, number):
    if not is_integer(number) or number not in memory.things:
        raise InvalidNumber(number)
    return memory.things[number]
