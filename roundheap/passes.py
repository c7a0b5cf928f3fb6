"""Passes: programs that are made of others, and which statements of a program matter."""

from roundheap.checks import is_count
from roundheap.errors import InvalidArgument, RunError
from roundheap.programs import Program
from roundheap.rules import simple_block
from roundheap.runs import course_of, last_spot_of
from roundheap.sights import row_of_parts, sight_at
from roundheap.spots import found_spot
from roundheap.visits import holding_places
from roundheap.words import Making, Word


def places_in(block, ahead, ends):
    """The places of all statements of a block, in the order of the text; those of the ends of blocks, too, if asked."""
    found = []
    for index, statement in enumerate(block):
        place = ahead + (index,)
        found.append(place)
        if statement[0] == "repeat":
            found.extend(places_in(statement[2], place, ends))
        elif statement[0] == "ifnil" or statement[0] == "ifsame":
            found.extend(places_in(statement[-2], place + (0,), ends))
            found.extend(places_in(statement[-1], place + (1,), ends))
    if ends:
        found.append(ahead + (len(block),))
    return found


def check_place(program, place, ends):
    """Raise if a value of any kind is not the place of a statement, or of the end of a block if these may be meant."""
    if not isinstance(place, tuple) or not all([is_count(number) for number in place]):
        raise InvalidArgument("place")
    if place not in places_in(program.body(), (), ends):
        raise InvalidArgument("place")


def block_at(body, place):
    """The block in which a place is, and the index in it."""
    block = body
    at = 0
    while at < len(place) - 1:
        statement = block[place[at]]
        if statement[0] == "repeat":
            block = statement[2]
            at += 1
        else:
            block = statement[place[at + 1] - 2]
            at += 2
    return block, place[at]


def made_of(program, body):
    """The program with another body."""
    return Program(
        program.classes(), body, variables=program.variables(), weak=program.weak(), threshold=program.threshold(),
        radices=program.radices(), functions=program.functions(),
    )


def places(program):
    """The places of all statements of the body, in the order of the text."""
    return places_in(program.body(), (), False)


def statement_at(program, place):
    """The statement at a place of the body."""
    check_place(program, place, False)
    block, index = block_at(program.body(), place)
    return block[index]


def without(program, place):
    """The program without the statement at a place."""
    check_place(program, place, False)
    body = program.body()
    block, index = block_at(body, place)
    del block[index]
    return made_of(program, body)


def with_statement(program, place, statement):
    """The program with a statement more, ahead of the one at a place, or at the end of a block."""
    check_place(program, place, True)
    body = program.body()
    block, index = block_at(body, place)
    block.insert(index, statement)
    return made_of(program, body)


def simplified(program):
    """The program to which the rules lead."""
    return made_of(program, simple_block(program, program.body()))


class Outcome:
    """How a run ends, its log, and the most objects that there were."""

    def __init__(self, course):
        sight = sight_at(course, found_spot(course, last_spot_of(course)))
        self.fine = course.failed is None
        self.word = Word(Making(row_of_parts(sight.parts), 0, 1))
        self.most = sight.memory.top[0]


def end_alike(one, other):
    return one.fine == other.fine and one.word == other.word


def same_log(one, other):
    """Whether the runs of two programs end alike with the same log."""
    first = Outcome(course_of(one, None))
    return end_alike(first, Outcome(course_of(other, None)))


def outcome_of(program):
    """How a program's run ends; None if it raises an error."""
    try:
        return Outcome(course_of(program, None))
    except RunError:
        return None


def removable(program):
    """The places of the statements each of which can be left out alone, and nothing is changed."""
    whole = Outcome(course_of(program, None))
    found = []
    for place in places(program):
        outcome = outcome_of(without(program, place))
        if outcome is not None and end_alike(whole, outcome):
            found.append(place)
    return found


def cleared(program, place, name, most):
    """How the run ends if a variable is cleared at a place; None if it raises an error, or has too many objects."""
    try:
        return Outcome(course_of(with_statement(program, place, ("clear", name)), most))
    except RunError:
        return None


def lowering_clears(program):
    """The tuples (place, variable, peak) of each clear that alone lowers the peak, and changes nothing else."""
    course = course_of(program, None)
    whole = Outcome(course)
    held = holding_places(course)
    found = []
    for place in held:
        # Elsewhere the variable is nil whenever the run comes by, and a clear does nothing.
        for name in held[place]:
            outcome = cleared(program, place, name, whole.most - 1)
            if outcome is not None and outcome.most < whole.most and end_alike(whole, outcome):
                found.append((place, name, outcome.most))
    return sorted(found)
