"""The machine: a program that is run statement by statement."""

from roundheap.checks import is_count
from roundheap.driving import Driver, do_next, spot_ahead
from roundheap.errors import InvalidNumber
from roundheap.memory import extent_of
from roundheap.telling import told_name, told_pool, told_row, told_values


class Machine:
    """A program that is run statement by statement, without limits on statements and objects."""

    def __init__(self, program):
        self._driver = Driver(program)
        self._memory = self._driver.doer.tape.memory

    def step(self):
        return do_next(self._driver)

    def steps(self, most):
        if not is_count(most):
            raise InvalidNumber(most)
        done = 0
        while done < most and do_next(self._driver) is not None:
            done += 1
        return done

    def next_spot(self):
        return spot_ahead(self._driver)

    def ended(self):
        return self._driver.end

    def variables(self):
        return told_values(self._memory.frames[-1].held)

    def weak(self):
        return told_values(self._memory.faint)

    def value(self, name):
        return told_name(self._memory, name)

    def objects(self):
        return list(self._memory.things)

    def row(self, number):
        return told_row(self._driver.world, self._memory, number)

    def log(self):
        return list(self._driver.doer.written)

    def news(self):
        return self._memory.births

    def collections(self):
        return self._memory.births // self._driver.world.pace

    def units(self):
        return extent_of(self._memory)[1]

    def pool(self, size):
        return told_pool(self._memory, size)
