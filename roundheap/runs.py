"""Runs of programs, and views of their spots."""

from roundheap.course import Course
from roundheap.memory import Memory, extent_of
from roundheap.sights import row_of_parts, sight_at
from roundheap.spots import found_spot, found_turns
from roundheap.telling import thing_of, told_name, told_pool, told_row, told_values
from roundheap.words import Making, Word
from roundheap.world import World


class Run:
    """The whole run of a program; repeats whose later rounds are known are not done to their end."""

    def __init__(self, program):
        self._course = course_of(program, None)

    def ended(self):
        failed = self._course.failed
        return ("done",) if failed is None else ("failed", failed)

    def last_spot(self):
        return last_spot_of(self._course)

    def work(self):
        return self._course.labor

    def rhythm(self, spot):
        _, turns = found_turns(self._course, spot)
        if turns.kind == "over":
            return ("over", len(turns.rounds))
        return (turns.kind, turns.first, turns.period, len(turns.rounds))

    def view(self, spot):
        return View(sight_at(self._course, found_spot(self._course, spot)))


def course_of(program, most):
    """The course of a whole program; one with more objects than some number is given up."""
    world = World(program)
    return Course(world, Memory(world.names, world.faint, list(world.sorts)), world.text, True, most)


def last_spot_of(course):
    return (len(course.root.text),) if course.failed is None else course.failed


class View:
    """What there is at a spot of a run; it is made by `Run.view`."""

    def __init__(self, sight):
        self._world = sight.world
        self._memory = sight.memory
        self._parts = sight.parts

    def variables(self):
        return told_values(self._memory.frames[-1].held)

    def weak(self):
        return told_values(self._memory.faint)

    def value(self, name):
        return told_name(self._memory, name)

    def objects(self):
        return list(self._memory.things)

    def row(self, number):
        return told_row(self._world, self._memory, number)

    def address(self, number):
        return thing_of(self._memory, number).home

    def log(self):
        return Word(Making(row_of_parts(self._parts), 0, 1))

    def news(self):
        return self._memory.births

    def collections(self):
        return self._memory.births // self._world.pace

    def units(self):
        return extent_of(self._memory)[1]

    def count(self):
        return extent_of(self._memory)[0]

    def retired(self):
        return self._memory.gone

    def peak(self):
        return self._memory.top

    def steps(self):
        return self._memory.done

    def pool(self, size):
        return told_pool(self._memory, size)
