"""Sweeps: what collections free, and which objects wait for one."""

from roundheap.checks import is_count, is_integer, is_one_of, is_within
from roundheap.errors import Grown, InvalidName, InvalidNumber, InvalidSpot
from roundheap.memory import memory_at
from roundheap.replays import Replay, memory_behind_replay, statement_at_spot
from roundheap.sights import sight_at
from roundheap.spots import found_spot
from roundheap.tallies import NO_LIFT, Gauge, Tally, far_spot, item_at, tally_of_word, total_at
from roundheap.trials import Trial, leads_to, level_in, walk_to


def sweeps(run):
    """How many numbered collections a run does."""
    course = run._course
    return course.doer.tape.memory.births // course.world.pace


class Sweep:
    """The collection that the statement at a spot runs."""

    def __init__(self, run, spot):
        replay = swept_at(run._course, spot)
        doer = replay.doer
        note = doer.sweeps[0]
        things = memory_at(doer.tape, note.begin).things
        behind = memory_behind_replay(replay)
        falls = [number for number, _ in doer.falls[note.first:note.last]]
        self._spot = spot
        self._which = behind.births // run._course.world.pace if replay.statement[0] == "new" else None
        self._tier = note.tier
        self._looked = [number for number in things if things[number].generation <= note.tier]
        self._victims = list(note.victims)
        self._falls = falls
        self._written = list(doer.written[note.written:])
        self._aged = []
        for number in self._looked:
            if number in behind.things:
                self._aged.append((number, things[number].generation, behind.things[number].generation))

    def where(self):
        return self._spot

    def which(self):
        return self._which

    def level(self):
        return self._tier

    def looked(self):
        return list(self._looked)

    def lost(self):
        return list(self._victims)

    def fallen(self):
        return [number for number in self._falls if number not in self._victims]

    def freed(self):
        return list(self._falls)

    def entries(self):
        return list(self._written)

    def aged(self):
        return list(self._aged)

    def __len__(self):
        return len(self._falls)

    def __bool__(self):
        return bool(len(self._falls) > 0)

    def __contains__(self, x):
        return is_integer(x) and x in self._falls

    def __getitem__(self, at):
        if not is_within(at, 0, len(self._falls) - 1):
            raise InvalidNumber(at)
        return self._falls[at]

    def __iter__(self):
        raise TypeError("a sweep is not iterable")

    def __eq__(self, other):
        return (isinstance(other, Sweep) and self._spot == other._spot and self._which == other._which
                and self._tier == other._tier and self._looked == other._looked
                and self._victims == other._victims and self._falls == other._falls
                and self._written == other._written and self._aged == other._aged)


def swept_at(course, spot):
    """The replay of the statement at a spot, which must run a collection; the value may be of any kind."""
    found = found_spot(course, spot)
    statement = statement_at_spot(found)
    if statement is None or statement[0] not in ("new", "collect"):
        raise InvalidSpot(spot)
    replay = Replay(course, found)
    if not replay.doer.sweeps:
        raise InvalidSpot(spot)
    return replay


def sweep(run, number):
    """The numbered collection with a number."""
    if not is_within(number, 1, sweeps(run)):
        raise InvalidNumber(number)
    course = run._course
    event, ways = item_at(tally_of_word(course, "new"), number * course.world.pace - 1)
    return Sweep(run, far_spot(event.deed.spot, ways))


def check_class(run, only):
    if only is not None and not is_one_of(only, run._course.world.sorts):
        raise InvalidName(only)


def tally_of_swept(course, only):
    """The tally of the objects of a class, or of all, that numbered collections free; it is reckoned once."""
    key = ("swept", only)
    if key not in course.tallies:
        counts = {}
        for note in course.doer.sweeps:
            falls = course.doer.falls[note.first:note.last]
            counts[note.end] = len([kind for _, kind in falls if only is None or kind == only])
        amounts = []
        for event in course.events:
            # A step is counted directly behind its collection.
            is_numbered = event.deed is not None and event.deed.statement[0] == "new"
            amounts.append(counts.get(event.mark, 0) if is_numbered else 0)
        course.tallies[key] = Tally(course, Gauge(amounts, NO_LIFT, None))
    return course.tallies[key]


def freed_up_to(run, number, only):
    """How many objects the numbered collections up to one free."""
    course = run._course
    tally = tally_of_swept(course, only)
    item = item_at(tally_of_word(course, "new"), (number + 1) * course.world.pace - 1)
    if item is None:
        return tally.sums[-1]
    event, ways = item
    spot = far_spot(event.deed.spot, ways)
    found = found_spot(course, spot)
    return total_at(tally, found.passage.marks[found.index], found.folds)


def swept(run, first, last, *, only=None):
    """How many objects the numbered collections behind one and up to another free."""
    if not is_within(first, 0, sweeps(run)):
        raise InvalidNumber(first)
    if not is_within(last, first, sweeps(run)):
        raise InvalidNumber(last)
    check_class(run, only)
    return freed_up_to(run, last, only) - freed_up_to(run, first, only)


def sweep_of(run, index, *, only=None):
    """The number of the numbered collection that frees the object with an index among all that they free."""
    if not is_count(index):
        raise InvalidNumber(index)
    check_class(run, only)
    course = run._course
    item = item_at(tally_of_swept(course, only), index)
    if item is None:
        return None
    event, ways = item
    found = found_spot(course, far_spot(event.deed.spot, ways))
    births = total_at(tally_of_word(course, "new"), found.passage.marks[found.index], found.folds)
    return (births + 1) // course.world.pace


class Waiting:
    """The objects that wait for a collection at a spot."""

    def __init__(self, run, spot):
        self._spot = spot
        self._trial = Trial(sight_at(run._course, found_spot(run._course, spot)))

    def dead(self):
        return list(self._trial.doomed)

    def level_for(self, number):
        return checked_level(self._trial, number, self._spot)

    def walk(self, number):
        level = checked_level(self._trial, number, self._spot)
        return None if level is None or level == 0 else walk_to(self._trial, number, level)

    def is_walk(self, number, walk):
        level = checked_level(self._trial, number, self._spot)
        return level is not None and level > 0 and leads_to(self._trial, number, level, walk)

    def __len__(self):
        return len(self._trial.doomed)

    def __bool__(self):
        return bool(len(self._trial.doomed) > 0)

    def __contains__(self, x):
        return is_integer(x) and x in self._trial.doomed


def checked_level(trial, number, spot):
    """The least level of a collection that frees an object; None if it is not dead."""
    if not is_integer(number) or number not in trial.memory.things:
        raise InvalidNumber(number)
    if number not in trial.doomed:
        return None
    level = level_in(trial, number)
    if level is None:
        raise Grown(spot)
    return level
