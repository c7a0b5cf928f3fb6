"""What is remembered of the blocks that a course went through."""

from roundheap.doing import mark_now, memory_of
from roundheap.memory import memory_at


class Passage:
    """A block that was gone through: the marks ahead of its statements and at its end, as far as it came.

    `inner` leads from the indexes of calls, ifs and repeats to what was done within them.
    """

    def __init__(self, text):
        self.text = text
        self.marks = []
        self.inner = {}


class Branch:
    """A call, or the block with the index `way` of an if."""

    def __init__(self, way, text):
        self.way = way
        self.passage = Passage(text)


class Step:
    """A simple statement that was done one by one and did not fail, and (objects, units) behind it."""

    def __init__(self, spot, statement, extent):
        self.spot = spot
        self.statement = statement
        self.extent = extent


class Event:
    """A step, or the skip of the rounds of a repeat that were not done one by one; `mark` is the one ahead of it.

    Behind the change at this mark a step is counted, or the rounds are skipped.
    """

    def __init__(self, mark, deed, turns):
        self.mark = mark
        self.deed = deed
        self.turns = turns


class Turns:
    """A repeat: the rounds that were begun one by one, and whether it is "over", "returns" or "grows".

    For each number of rounds that were done to their end, from 0 on: `marks` are those behind them, `touched` how
    many touches there were, `sizes` how many objects, `leasts` the least of these so far, `births` how many were made,
    `doings` how many statements done, `helds` what the variables of the innermost call refer to: (number, address), or
    None. For repeats that may grow, `lasts`, `gaps` and `lows` tell in which rounds objects were touched, `forms` and
    `links` in which order (as numbers from `ids`), `peers` behind which ones the objects were the same that it has not
    made. `known` are the rows of objects in states.
    `depth` is the index of its rounds in spots.
    """

    def __init__(self, depth, times, text):
        self.depth = depth
        self.times = times
        self.text = text
        self.rounds = []
        self.kind = "over"
        self.first = 0
        self.period = 0
        self.told = None
        self.leaving = None
        self.skip = None
        self.marks = []
        self.touched = []
        self.sizes = []
        self.leasts = []
        self.births = []
        self.doings = []
        self.helds = []
        self.lasts = {}
        self.gaps = []
        self.forms = []
        self.links = []
        self.ids = {}
        self.lows = []
        self.peers = {}
        self.known = {}


def holding(memory, number):
    """The number and the address of an object; None for nil, and for a retired one."""
    return (number, memory.things[number].home) if number in memory.things else None


def note_round(doer, turns):
    """Remember what there is behind the rounds that are done."""
    memory = memory_of(doer)
    turns.marks.append(mark_now(doer))
    turns.touched.append(len(doer.touches))
    many = len(memory.things)
    turns.sizes.append(many)
    turns.leasts.append(min(turns.leasts[-1], many) if turns.leasts else many)
    turns.births.append(memory.births)
    turns.doings.append(memory.done)
    held = memory.frames[-1].held
    turns.helds.append({name: holding(memory, held[name]) for name in held})


def rounds_done(turns):
    """How many rounds were done to their end."""
    return len(turns.marks) - 1


def memory_behind(doer, turns, number):
    """The memory behind so many rounds that were done one by one."""
    return memory_at(doer.tape, turns.marks[number])
