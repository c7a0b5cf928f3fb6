"""Visits: when a course came by the places of the body."""

from roundheap.memory import Reel, wind_to
from roundheap.traces import Turns


def visits_in(passage, ahead):
    """The list of (mark, place) for all places of the body in a block that was gone through."""
    visits = []
    for index, mark in enumerate(passage.marks):
        place = ahead + (index,)
        visits.append((mark, place))
        if index not in passage.inner:
            continue
        inner = passage.inner[index]
        if isinstance(inner, Turns):
            for part in inner.rounds:
                visits.extend(visits_in(part, place))
        elif passage.text[index][0] != "call":
            visits.extend(visits_in(inner.passage, place + (inner.way,)))
    return visits


def holding_places(course):
    """A dict from places to the variables of the program, in their order, that are not nil there at some time."""
    reel = Reel(course.doer.tape)
    seen = {}
    for mark, place in sorted(visits_in(course.root, ())):
        wind_to(reel, mark)
        held = reel.memory.frames[0].held
        names = seen.setdefault(place, {})
        for name in held:
            if held[name] is not None:
                names[name] = True
    return {place: [name for name in course.world.names if name in seen[place]] for place in seen}
