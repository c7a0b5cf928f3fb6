"""The course of a run: its blocks done one by one, and what each repeat did."""

from roundheap.calls import begin_call, end_call, way_of
from roundheap.doing import Doer, mark_now, memory_of
from roundheap.errors import LimitExceeded
from roundheap.growth import growth_behind, note_forms, note_gaps
from roundheap.memory import count_step, extent_of, record
from roundheap.periods import skip_rounds
from roundheap.states import Likes, all_rows, outline_of
from roundheap.sweeping import do_simple
from roundheap.traces import Branch, Event, Passage, Step, Turns, memory_behind, note_round, rounds_done

MOST_WORK = 20000
MOST_OBJECTS = 200


class Course:
    """A block that is done from a memory on, as far as it comes.

    `tops` are numbers of objects and units behind each statement that was done one by one; `events` are these
    statements, and the skips of rounds that were not; `failed` is the spot at which the course failed, or None.
    `tallies` and `drops` are what was reckoned of the events and of the changes once. With a number `most`, a course
    with more objects than this is of no use, and is given up.
    """

    def __init__(self, world, memory, text, grows, most):
        self.world = world
        self.doer = Doer(world, memory, True)
        self.grows = grows
        self.most = most
        self.labor = 0
        self.tops = []
        self.events = []
        self.tallies = {}
        self.drops = None
        self.failed = None
        self.root = Passage(text)
        do_block(self, self.root, ())


def do_block(course, passage, path):
    """Do the statements of a block; whether none of them failed."""
    for index, statement in enumerate(passage.text):
        passage.marks.append(mark_now(course.doer))
        if not do_statement(course, passage, index, statement, path + (index,)):
            return False
    passage.marks.append(mark_now(course.doer))
    return True


def do_statement(course, passage, index, statement, spot):
    word = statement[0]
    if word == "repeat":
        turns = Turns(len(spot), statement[1], statement[2])
        passage.inner[index] = turns
        return do_repeat(course, turns, spot)
    if word == "call":
        branch = Branch(0, course.world.tasks[statement[2]].text)
        passage.inner[index] = branch
        return do_call(course, statement, branch.passage, spot)
    if word == "ifnil" or word == "ifsame":
        way = way_of(course.doer, statement, spot)
        branch = Branch(way, statement[way - 2])
        passage.inner[index] = branch
        return do_block(course, branch.passage, spot + (way,))
    return do_step(course, statement, spot)


def do_step(course, statement, spot):
    """Do a simple statement, within the limits of a run."""
    if course.labor == MOST_WORK:
        raise LimitExceeded(MOST_WORK)
    course.labor += 1
    doer = course.doer
    doer.spot = spot
    if not do_simple(doer, statement):
        course.failed = spot
        return False
    memory = memory_of(doer)
    if len(memory.things) > MOST_OBJECTS:
        raise LimitExceeded(MOST_OBJECTS)
    extent = extent_of(memory)
    if course.most is not None and extent[0] > course.most:
        raise LimitExceeded(course.most)
    course.events.append(Event(mark_now(doer), Step(spot, statement, extent), None))
    record(doer.tape, count_step, None, None)
    course.tops.append(extent)
    return True


def do_call(course, statement, passage, spot):
    begin_call(course.doer, statement, spot)
    if not do_block(course, passage, spot):
        return False
    end_call(course.doer, statement, spot + (len(passage.text),))
    return True


def do_repeat(course, turns, spot):
    """Do rounds until all are over, a state returns, or the repeat is found to grow; then go on behind the last one."""
    doer = course.doer
    outlines = {}
    note_round(doer, turns)
    note_state(course, turns, outlines)
    while len(turns.rounds) < turns.times:
        number = len(turns.rounds)
        passage = Passage(turns.text)
        turns.rounds.append(passage)
        if not do_block(course, passage, spot + (number,)):
            return False
        note_round(doer, turns)
        first = note_state(course, turns, outlines)
        if first is not None:
            turns.kind = "returns"
            turns.first = first
            turns.period = number + 1 - first
            break
        if course.grows and len(spot) == 1 and has_grown(course, turns):
            break
    if len(turns.rounds) < turns.times:
        course.events.append(Event(mark_now(doer), None, turns))
        skip_rounds(course, turns)
    return True


def note_state(course, turns, outlines):
    """Remember the state behind the rounds that are done; the earlier number of rounds with this state, or None."""
    memory = memory_of(course.doer)
    number = rounds_done(turns)
    outline = outline_of(memory, course.world.phases)
    if outline not in outlines:
        outlines[outline] = Likes(number)
        return None
    likes = outlines[outline]
    if not likes.rounds:
        earlier = memory_behind(course.doer, turns, likes.first)
        likes.rounds[all_rows(earlier, turns.known)] = likes.first
    rows = all_rows(memory, turns.known)
    if rows not in likes.rounds:
        likes.rounds[rows] = number
    return likes.rounds[rows] if likes.rounds[rows] < number else None


def has_grown(course, turns):
    """Whether the repeat is found to grow behind the rounds that are done."""
    note_gaps(course.doer, turns)
    note_forms(course.doer, turns)
    period = growth_behind(course.doer, turns)
    if period is None:
        return False
    turns.kind = "grows"
    turns.period = period
    turns.first = len(turns.rounds) - 2 * period
    return True
