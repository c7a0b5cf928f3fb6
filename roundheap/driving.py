"""Going through a program statement by statement, without limits."""

from roundheap.calls import begin_call, end_call, way_of
from roundheap.doing import Doer, memory_of
from roundheap.memory import Memory, count_step, record
from roundheap.sweeping import do_simple
from roundheap.world import World


class Lap:
    """A block that is gone through: the index of the next statement, and what stands ahead of it in spots.

    `statement` is what the block belongs to, None for the body. For a repeat `number` is the round. `seen` are then
    the values that there were at the beginnings of rounds since the last step, of which `stamp` were done by then.
    """

    def __init__(self, statement, text, path):
        self.statement = statement
        self.text = text
        self.path = path
        self.index = 0
        self.number = 0
        self.seen = {}
        self.stamp = 0


class Driver:
    """A program on its way: the blocks that are open, inwards, and how the run ended, if it has."""

    def __init__(self, program):
        world = World(program)
        self.world = world
        self.doer = Doer(world, Memory(world.names, world.faint, list(world.sorts)), False)
        self.laps = [Lap(None, world.text, ())]
        self.end = None
        go_on(self)


def spot_ahead(driver):
    lap = driver.laps[-1]
    return lap.path + (lap.index,)


def go_on(driver):
    """Go through calls, ifs and repeats up to the next simple statement, or to the end."""
    while driver.end is None:
        lap = driver.laps[-1]
        if lap.index == len(lap.text):
            leave(driver, lap)
            continue
        statement = lap.text[lap.index]
        word = statement[0]
        spot = spot_ahead(driver)
        if word == "repeat":
            lap.index += 1
            if statement[1] > 0:
                driver.laps.append(Lap(statement, statement[2], spot + (0,)))
                note_round(driver, driver.laps[-1])
        elif word == "call":
            begin_call(driver.doer, statement, spot)
            lap.index += 1
            driver.laps.append(Lap(statement, driver.world.tasks[statement[2]].text, spot))
        elif word == "ifnil" or word == "ifsame":
            way = way_of(driver.doer, statement, spot)
            lap.index += 1
            driver.laps.append(Lap(statement, statement[way - 2], spot + (way,)))
        else:
            return


def leave(driver, lap):
    """Go on behind the last statement of a block."""
    if lap.statement is None:
        driver.end = ("done",)
    elif lap.statement[0] == "call":
        end_call(driver.doer, lap.statement, spot_ahead(driver))
        driver.laps.pop()
    elif lap.statement[0] == "repeat" and turn(driver, lap):
        lap.index = 0
        lap.path = lap.path[:-1] + (lap.number,)
    else:
        driver.laps.pop()


def turn(driver, lap):
    """Go on to the next round of a repeat; whether there is one."""
    times = lap.statement[1]
    lap.number += 1
    if lap.number < times:
        earlier = note_round(driver, lap)
        if earlier is not None:
            # Without a step only variables change: what was come to once more is come to again and again.
            period = lap.number - earlier
            lap.number += (times - lap.number) // period * period
            lap.seen = {}
    return lap.number < times


def note_round(driver, lap):
    """Remember the values at the beginning of a round; the earlier round since the last step that began with them."""
    memory = memory_of(driver.doer)
    if lap.stamp != memory.done:
        lap.stamp = memory.done
        lap.seen = {}
    held = memory.frames[-1].held
    values = tuple([held[name] for name in held])
    earlier = lap.seen.get(values, None)
    lap.seen[values] = lap.number
    return earlier


def do_next(driver):
    """Do the next simple statement; its spot, or None if the run has ended."""
    if driver.end is not None:
        return None
    doer = driver.doer
    lap = driver.laps[-1]
    spot = spot_ahead(driver)
    doer.spot = spot
    if not do_simple(doer, lap.text[lap.index]):
        driver.end = ("failed", spot)
        return spot
    record(doer.tape, count_step, None, None)
    # A machine tells nothing of what was touched or freed.
    doer.touches = []
    doer.falls = []
    doer.sweeps = []
    lap.index += 1
    go_on(driver)
    return spot
