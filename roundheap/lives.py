"""The lives of objects: where they are made and freed, and who has an address."""

from roundheap.checks import is_count, is_size, is_within
from roundheap.errors import InvalidNumber, InvalidPlace
from roundheap.following import followed, spot_of_change
from roundheap.grounds import Ground, place_of
from roundheap.memory import first_home, memory_at
from roundheap.sights import sight_at
from roundheap.spots import found_spot
from roundheap.tallies import far_spot, item_at, tally_of_word


def birth_of(run, number):
    """(event, ways) of the statement that makes an object; the number may be of any kind."""
    course = run._course
    if not is_within(number, 0, course.doer.tape.memory.births - 1):
        raise InvalidNumber(number)
    return item_at(tally_of_word(course, "new"), number)


def born(run, number):
    """The spot of the statement that makes an object."""
    event, ways = birth_of(run, number)
    return far_spot(event.deed.spot, ways)


def made_as(run, number):
    """(class, address) of an object."""
    event, ways = birth_of(run, number)
    spot = far_spot(event.deed.spot, ways)
    sort = event.deed.statement[2]
    memory = sight_at(run._course, found_spot(run._course, spot)).memory
    return (sort, first_home(memory, run._course.world.sorts[sort].size))


def died(run, number):
    """(spot, how) of the end of an object; None if it is not freed."""
    course = run._course
    event, ways = birth_of(run, number)
    # The object was made just ahead of the mark.
    own = memory_at(course.doer.tape, event.mark).births - 1
    death = followed(course, own, event.mark, ways)
    if death is None:
        return None
    spot = far_spot(spot_of_change(course, death.change), death.ways)
    return (spot, "collection" if is_collected(course.doer, death) else "count")


def is_collected(doer, death):
    """Whether a collection itself frees an object, and not only lets it go."""
    low = 0
    high = len(doer.sweeps)
    while low < high:
        middle = (low + high) // 2
        if doer.sweeps[middle].end <= death.change:
            low = middle + 1
        else:
            high = middle
    if low == len(doer.sweeps) or doer.sweeps[low].begin > death.change:
        return False
    return death.number in doer.sweeps[low].victims


def is_address(value):
    return isinstance(value, tuple) and len(value) == 2 and is_size(value[0]) and is_count(value[1])


def holder(run, spot, address):
    """Who has an address at a spot: an object, a place of the pool, or a retired object."""
    course = run._course
    found = found_spot(course, spot)
    if not is_address(address):
        raise InvalidPlace(address)
    memory = sight_at(course, found).memory
    numbers = list(memory.things)
    place = place_of(Ground(memory, numbers), address)
    if place is None:
        return ("retired",)
    if place[0] == "object":
        return ("object", numbers[place[1]])
    return ("pool", place[2])
