"""Growth: by which conditions a repeat is found to do the same again and again, and to leave objects behind."""

from roundheap.doing import memory_of
from roundheap.memory import RETIRED
from roundheap.states import old_state
from roundheap.traces import memory_behind, rounds_done


FEW_ROUNDS = 50


class Share:
    """What there is behind a number of rounds: the objects that the repeat goes on with, and those it has left.

    `core` are the former ones in the order of their numbers, `places` their indexes in it; `sunk` are the others.
    """

    def __init__(self, memory, core, sunk, old):
        self.memory = memory
        self.core = core
        self.places = {number: index for index, number in enumerate(core)}
        self.sunk = {number: True for number in sunk}
        self.old = old


def split_at(doer, turns, number, period, memory):
    """(core, sunk) behind so many rounds: the objects that the next period touches or the repeat has not made."""
    touched = set(doer.touches[turns.touched[number]:turns.touched[number + period]])
    begun = turns.births[0]
    core = [other for other in memory.things if other < begun or other in touched]
    sunk = [other for other in memory.things if other >= begun and other not in touched]
    return core, sunk


def share_at(doer, turns, number, period):
    memory = memory_behind(doer, turns, number)
    core, sunk = split_at(doer, turns, number, period, memory)
    old = len([other for other in core if other < turns.births[0]])
    return Share(memory, core, sunk, old)


def are_fellows(one, value, other, fellow):
    """Whether two values are both nil, both retired, fellows, or two objects that were left."""
    if value is None or value == RETIRED or fellow is None or fellow == RETIRED:
        return value == fellow
    if value in one.places and fellow in other.places:
        return one.places[value] == other.places[fellow]
    return value in one.sunk and fellow in other.sunk


def are_alike(one, number, other, fellow):
    """Whether two objects of the cores are alike, and what their fields refer to."""
    thing = one.memory.things[number]
    twin = other.memory.things[fellow]
    if thing.kind != twin.kind or thing.tag != twin.tag or thing.generation != twin.generation:
        return False
    if (number in one.memory.kept) != (fellow in other.memory.kept):
        return False
    return all([are_fellows(one, value, other, more) for value, more in zip(thing.fields, twin.fields)])


def have_fellows(one, other):
    """The condition "objects"."""
    if len(one.core) != len(other.core) or one.old != other.old:
        return False
    for number, fellow in zip(one.core, other.core):
        if not are_alike(one, number, other, fellow):
            return False
    pairs = [(one.memory.faint, other.memory.faint), (one.memory.frames[0].held, other.memory.frames[0].held)]
    for held, more in pairs:
        if not all([are_fellows(one, held[name], other, more[name]) for name in held]):
            return False
    return True


def entries_of(share):
    """The list of (entry, object that was left): variables and fields that refer to such objects."""
    held = share.memory.frames[0].held
    entries = [(name, held[name]) for name in held if held[name] in share.sunk]
    for index, number in enumerate(share.core):
        for at, value in enumerate(share.memory.things[number].fields):
            if value in share.sunk:
                entries.append(((index, at), value))
    return entries


def sunk_from(share, number):
    """A dict with the left objects that can be reached from one through such objects."""
    reached = {number: True}
    ways = [number]
    while ways:
        last = ways.pop()
        for other in share.memory.things[last].fields:
            if other in share.sunk and other not in reached:
                reached[other] = True
                ways.append(other)
    return reached


def led_to(share, numbers):
    """The indexes of the objects of the core to which some left objects refer, ascending."""
    found = {}
    for number in numbers:
        for value in share.memory.things[number].fields:
            if value in share.places:
                found[share.places[value]] = True
    return sorted(found)


def ways_in(share):
    """(entries with the indexes to which each leads, indexes to which some left object refers)"""
    rows = [(entry, led_to(share, sunk_from(share, number))) for entry, number in entries_of(share)]
    return (rows, led_to(share, share.sunk))


def are_reached(share):
    """The condition "reached"."""
    reached = {}
    for _, number in entries_of(share):
        if number not in reached:
            reached.update(sunk_from(share, number))
    return len(reached) == len(share.sunk)


def are_old(share, oldest):
    return all([share.memory.things[number].generation == oldest for number in share.sunk])


def fault_of(doer, turns, first, period):
    """The word of the first condition that is not fulfilled for these rounds; None if all are."""
    last = first + period
    if (turns.births[last] - turns.births[first]) % doer.world.phases != 0:
        return "phase"
    if turns.sizes[last] <= turns.sizes[first]:
        return "size"
    one = share_at(doer, turns, first, period)
    other = share_at(doer, turns, last, period)
    if not have_fellows(one, other):
        return "objects"
    if ways_in(one) != ways_in(other):
        return "entries"
    if not are_old(one, doer.world.oldest) or not are_old(other, doer.world.oldest):
        return "old"
    if not are_reached(other):
        return "reached"
    if not all([number in other.sunk for number in one.sunk]):
        return "left"
    return None


def signs_between(numbers, others):
    """Which ones of some numbers are less than, equal to, or greater than others."""
    return tuple([1 if one < other else 0 if one == other else -1 for one, other in zip(numbers, others)])


def note_forms(doer, turns):
    """Remember for the last round in which order the numbers of the touched objects are.

    `forms` tell this among the objects of the round, `links` between these and those of the round ahead of it.
    """
    ends = turns.touched[-3:]
    now = doer.touches[ends[-2]:ends[-1]]
    before = doer.touches[ends[0]:ends[1]] if len(ends) == 3 else []
    form = signs_between(now, now[1:])
    link = (form, signs_between(before, now))
    turns.forms.append(turns.ids.setdefault(form, len(turns.ids)))
    turns.links.append(turns.ids.setdefault(link, len(turns.ids)))


def have_same_forms(turns, first, middle, last):
    """Whether two periods touch objects in the same order: what they touch are fellows, or made alike."""
    links = turns.links
    # Mostly the last rounds differ already.
    few = min(last - middle - 1, FEW_ROUNDS)
    if turns.forms[first] != turns.forms[middle] or links[middle - few:middle] != links[last - few:last]:
        return False
    return links[first + 1:middle] == links[middle + 1:last]


def note_gaps(doer, turns):
    """Remember for the last round how long ago each object was touched that is touched in it.

    `gaps` are those numbers of rounds, ascending, for the objects that were there when the round began; `lows` the
    earliest round in which one of them that the repeat made was touched the last time before.
    """
    number = rounds_done(turns) - 1
    begun = turns.births[0]
    gaps = []
    low = number
    for other in sorted(set(doer.touches[turns.touched[number]:turns.touched[number + 1]])):
        if other >= turns.births[number]:
            break
        # What the repeat has not made may not have been touched yet.
        before = turns.lasts.get(other, -1)
        gaps.append(number - before)
        if other >= begun:
            low = min(low, before)
        turns.lasts[other] = number
    for other in reversed(list(memory_of(doer).things)):
        if other < turns.births[number]:
            break
        turns.lasts[other] = number
    turns.gaps.append(sorted(gaps))
    turns.lows.append(low)


def is_even(row, first, middle, last):
    """Whether something rose by as much in both periods."""
    return row[last] - row[middle] == row[middle] - row[first]


def are_even(turns, first, middle, last):
    """Whether both periods made, did and left as much, and left anything at all."""
    if turns.sizes[last] <= turns.sizes[middle] or not is_even(turns.sizes, first, middle, last):
        return False
    return is_even(turns.births, first, middle, last) and is_even(turns.doings, first, middle, last)


def have_same_gaps(turns, middle, last):
    """Whether the rounds of two periods touched objects alike, as far as that was within the period."""
    period = last - middle
    for number in range(last - 1, middle - 1, -1):
        gaps = turns.gaps[number]
        others = turns.gaps[number - period]
        if gaps == others:
            continue
        since = number - middle
        if len(gaps) != len(others):
            return False
        if not all([one == other or one > since and other > since for one, other in zip(gaps, others)]):
            return False
    return True


def rounds_alike(doer, turns):
    """The earlier rounds, ascending, behind which the objects that the repeat has not made were as they are now.

    All of these belong to the core and come first in it, so they are fellows of themselves. Only rounds behind which
    there were more objects than behind some earlier one are told.
    """
    return turns.peers.setdefault(old_state(memory_of(doer), turns.births[0], turns.known), [])


def growth_behind(doer, turns):
    """The shortest period with which a repeat is found to grow behind the rounds that are done; None if it is not.

    Both periods do the same if all conditions are fulfilled, so what is cheap to see rules out most of them.
    """
    last = rounds_done(turns)
    if turns.sizes[last] == turns.leasts[last]:
        return None
    alike = rounds_alike(doer, turns)
    low = last
    passed = last
    for middle in alike[::-1]:
        first = 2 * middle - last
        if first < 0:
            break
        # An object that was not touched in the first period, but is in the second one, rules out the condition "left".
        low = min([low] + turns.lows[middle:passed])
        passed = middle
        if low < first or not are_even(turns, first, middle, last):
            continue
        if not have_same_forms(turns, first, middle, last) or not have_same_gaps(turns, middle, last):
            continue
        if fault_of(doer, turns, first, last - middle) is None:
            return last - middle
    alike.append(last)
    return None
