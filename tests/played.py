"""Repeats that grow, as a plain memory has played them: what they leave in each period."""

import random

from plain import Plain, Touched
from programs_by_chance import growing_program
from roundheap.errors import Grown, LimitExceeded
from roundheap.runs import Run


class Played:
    """A repeat that grows, with what there is at the beginnings of its periods."""

    def __init__(self, plain, run, spot, repeat):
        self.plain, self.run, self.spot, self.repeat = plain, run, spot, repeat
        _, self.first, self.period, _ = repeat.rhythm
        # The last period of which all is known: the touches of one more must have been played.
        self.periods = (len(repeat.snaps) - 1 - self.first) // self.period - 1

    def snap(self, count):
        return self.repeat.snaps[self.first + count * self.period]

    def parts(self, count):
        """(objects, A, S) at the beginning of a period."""
        return self.plain.parts(self.repeat, self.first + count * self.period, self.period)

    def left(self, count):
        """The numbers of the objects that a period leaves."""
        before = self.parts(count)[2]
        return [number for number in self.parts(count + 1)[2] if number not in before]


def play(program):
    """(plain memory, run, repeats that grow); None if the run raises an error."""
    plain = Plain(program)
    try:
        plain.play()
        run = Run(program)
    except (Touched, Grown, LimitExceeded):
        return None
    grown = []
    for spot, repeat in plain.repeats.items():
        if len(spot) == 1 and repeat.rhythm is not None and repeat.rhythm[0] == "grows":
            grown.append(Played(plain, run, spot, repeat))
    return plain, run, grown


def some_that_grow(first, last, rounds):
    """Repeats that grow, of programs by chance."""
    found = []
    for seed in range(first, last):
        played = play(growing_program(random.Random(seed), rounds))
        if played is not None:
            found.extend(played[2])
    return found
