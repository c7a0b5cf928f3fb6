"""Conditions of steps: which values are some, and for which steps of a course they are fulfilled."""

from roundheap.checks import is_count, is_name, is_one_of
from roundheap.doing import ACTIONS
from roundheap.memory import RETIRED, Reel, wind_to

MOST_CONDITIONS = 6
SIGHTS = {"nil": 1, "some": 1, "same": 2, "unlike": 2}


def is_simple(word):
    """Whether a value of any kind is the first word of a simple statement."""
    return is_one_of(word, list(ACTIONS) + ["collect"])


def statement_in(block, place):
    """The statement at a place of a block, given as any value; None if there is none."""
    if not isinstance(place, tuple) or not all([is_count(number) for number in place]):
        return None
    at = 0
    while at < len(place) and place[at] < len(block):
        statement = block[place[at]]
        at += 1
        if at == len(place):
            return statement
        if statement[0] == "repeat":
            block = statement[2]
        elif statement[0] in ("ifnil", "ifsame") and place[at] < 2:
            block = statement[place[at] - 2]
            at += 1
        else:
            return None
    return None


def is_simple_place(block, place):
    statement = statement_in(block, place)
    return statement is not None and is_simple(statement[0])


def is_condition(world, value):
    """Whether a value of any kind is a condition."""
    if not isinstance(value, tuple) or not 2 <= len(value) <= 3 or not isinstance(value[0], str):
        return False
    word = value[0]
    names = world.names + world.faint
    if word in SIGHTS:
        return len(value) == SIGHTS[word] + 1 and all([is_one_of(name, names) for name in value[1:]])
    if word == "class":
        return len(value) == 3 and is_one_of(value[1], names) and is_one_of(value[2], world.sorts)
    if word == "tag":
        return len(value) == 3 and is_one_of(value[1], names) and is_name(value[2])
    if word == "within":
        if len(value) != 3 or not is_one_of(value[1], world.tasks):
            return False
        return is_simple_place(world.tasks[value[1]].text, value[2])
    if len(value) != 2:
        return False
    if word == "objects" or word == "units":
        return is_count(value[1])
    if word == "word":
        return is_simple(value[1])
    return word == "at" and is_simple_place(world.text, value[1])


def are_conditions(world, value):
    if not isinstance(value, list) or len(value) > MOST_CONDITIONS:
        return False
    return all([is_condition(world, part) for part in value])


def place_in(world, spot):
    """(function, place) of the statement at a spot of the program; None for the body."""
    block = world.text
    function = None
    place = ()
    at = 0
    while at < len(spot) - 1:
        statement = block[spot[at]]
        place = place + (spot[at],)
        at += 1
        if statement[0] == "repeat":
            block = statement[2]
            at += 1
        elif statement[0] == "call":
            function = statement[2]
            block = world.tasks[function].text
            place = ()
        else:
            block = statement[spot[at] - 2]
            place = place + (spot[at],)
            at += 1
    return function, place + (spot[at],)


def is_fulfilled(world, memory, step, condition):
    """Whether a step fulfils a condition, sizes left aside; the memory is that behind it."""
    word = condition[0]
    if word == "objects" or word == "units":
        return True
    if word == "word":
        return step.statement[0] == condition[1]
    if word == "at":
        return place_in(world, step.spot) == (None, condition[1])
    if word == "within":
        return place_in(world, step.spot) == (condition[1], condition[2])
    value = value_in(memory, condition[1])
    if word == "nil":
        return value is None
    if word == "some":
        return value is not None
    if word == "same" or word == "unlike":
        other = value_in(memory, condition[2])
        # Of two retired objects it is not known whether they are the same.
        return (value != RETIRED or other != RETIRED) and (value == other) == (word == "same")
    if value is None or value == RETIRED:
        return False
    thing = memory.things[value]
    return (thing.kind if word == "class" else thing.tag) == condition[2]


def value_in(memory, name):
    """To what a variable of the program, or a weak one, refers."""
    held = memory.frames[0].held
    return held[name] if name in held else memory.faint[name]


def amounts_of(course, conditions):
    """1 for each event that is a step that fulfils all conditions, sizes left aside, and 0 for the others."""
    reel = Reel(course.doer.tape)
    amounts = []
    for event in course.events:
        fine = event.deed is not None
        if fine:
            wind_to(reel, event.mark + 1)
            fine = all([is_fulfilled(course.world, reel.memory, event.deed, part) for part in conditions])
        amounts.append(1 if fine else 0)
    return amounts


def least_of(conditions):
    """How many objects and units there must be at least."""
    least = [0, 0]
    for word, number in [part for part in conditions if part[0] in ("objects", "units")]:
        index = 0 if word == "objects" else 1
        least[index] = max(least[index], number)
    return (least[0], least[1])
