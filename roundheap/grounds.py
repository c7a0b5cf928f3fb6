"""Grounds: which address is at which place of a memory, and the move from one memory to another."""

from roundheap.memory import SIZES
from roundheap.places import Plan


class Ground:
    """The places of a memory: some of its objects by index, and the pools. Places are told as in moves."""

    def __init__(self, memory, numbers):
        self.memory = memory
        self.numbers = numbers
        self.indexes = {number: index for index, number in enumerate(numbers)}
        self.taken_by = {memory.things[number].home: ("object", index) for index, number in enumerate(numbers)}
        for size in SIZES:
            free = memory.free[size]
            for index, k in enumerate(free[::-1]):
                self.taken_by[(size, k)] = ("pool", size, index)


def place_of(ground, home):
    """The place at which an address is; None if an object that is not among those of the ground has it."""
    if home in ground.taken_by:
        return ground.taken_by[home]
    size, k = home
    memory = ground.memory
    if k < memory.behind[size]:
        return None
    return ("pool", size, len(memory.free[size]) + k - memory.behind[size])


def home_at(ground, place):
    """The address that is at a place."""
    memory = ground.memory
    if place[0] == "object":
        return memory.things[ground.numbers[place[1]]].home
    _, size, index = place
    free = memory.free[size]
    if index < len(free):
        return (size, free[len(free) - 1 - index])
    return (size, memory.behind[size] + index - len(free))


def plan_between(ground, later):
    """The move from one ground to a later one of the same course."""
    heads = [place_of(ground, later.memory.things[number].home) for number in later.numbers]
    fronts = {}
    for size in SIZES:
        free = later.memory.free[size]
        if free or later.memory.behind[size] > 0:
            front = [place_of(ground, (size, k)) for k in free[::-1]]
            fronts[size] = (front, place_of(ground, (size, later.memory.behind[size]))[2])
    return Plan(heads, len(heads), fronts)
