"""What differs between two spots, two runs, or two blocks at a spot."""

from roundheap.course import Course
from roundheap.errors import InvalidArgument, InvalidProgram
from roundheap.logs import row_of_items
from roundheap.memory import SIZES, pool_of
from roundheap.programs import check_functions, scope_for
from roundheap.runs import View
from roundheap.sights import Sight, sight_at
from roundheap.spots import found_spot
from roundheap.statements import copied_block, survey
from roundheap.states import state_of
from roundheap.words import Making, Word, first_difference
from roundheap.world import names_of


def memories_at(run, first, last):
    """The memories at two spots."""
    course = run._course
    one = found_spot(course, first)
    other = found_spot(course, last)
    earlier = sight_at(course, one).memory
    later = sight_at(course, other).memory
    if later.done < earlier.done:
        raise InvalidArgument("last")
    return earlier, later


def between(run, first, last):
    """(kept, gone, made): the objects at both spots, at the first one alone, at the last one alone."""
    earlier, later = memories_at(run, first, last)
    # Retired objects are in neither memory: one that is retired at a spot is not there at it.
    kept = [number for number in earlier.things if number in later.things]
    gone = [number for number in earlier.things if number not in later.things]
    return (kept, gone, [number for number in later.things if number not in earlier.things])


def made_between(run, first, last):
    """How many objects of each class were made between two spots."""
    earlier, later = memories_at(run, first, last)
    return {name: later.made[name] - earlier.made[name] for name in earlier.made}


def numbers_of_sorts(memory):
    counts = {name: 0 for name in memory.made}
    for number in memory.things:
        counts[memory.things[number].kind] += 1
    return counts


def freed_between(run, first, last):
    """How many objects of each class are not there any more at the last spot."""
    earlier, later = memories_at(run, first, last)
    begin = numbers_of_sorts(earlier)
    end = numbers_of_sorts(later)
    freed = {}
    for name in begin:
        freed[name] = max(0, begin[name] + later.made[name] - earlier.made[name] - end[name])
    return freed


def log_difference(one, other):
    """(index, entry, other entry) for the first difference of the logs of two runs; None if they are equal."""
    words = [run.view(run.last_spot()).log() for run in (one, other)]
    index = first_difference(words[0], words[1])
    if index is None:
        return None
    entries = [word[index] if index < word.length() else "end" for word in words]
    return (index, entries[0], entries[1])


def checked_block(world, memory, block):
    """A copy of a block that may stand where the innermost call of a memory is."""
    program = world.program
    calls, _ = check_functions(program.functions(), program.classes(), program.weak(), program.radices())
    names = names_of(world, memory.frames[-1].function)
    scope = scope_for(names, program.classes(), program.weak(), program.radices(), calls)
    seen = survey(block, scope)
    if seen.place is not None:
        raise InvalidProgram("block", seen.place)
    if seen.buried:
        raise InvalidProgram("block", -1)
    return copied_block(block)


def done_block(sight, block):
    """The course of a block that is done from a sight on."""
    text = checked_block(sight.world, sight.memory, block)
    memory = sight.memory
    memory.worked = 0
    memory.logged = 0
    return Course(sight.world, memory, text, False, None)


def block_end(run, spot, block):
    """How a block ends that is done from a spot on, and the view behind it."""
    sight = sight_at(run._course, found_spot(run._course, spot))
    course = done_block(sight, block)
    end = ("done",) if course.failed is None else ("failed", course.failed)
    memory = course.doer.tape.memory
    parts = sight.parts + [(course.doer.written, 0, memory.logged, 1)]
    return (end, View(Sight(sight.world, memory, parts)))


def addresses_in(memory):
    """The addresses at all places."""
    homes = [memory.things[number].home for number in memory.things]
    return (homes, [pool_of(memory, size) for size in SIZES])


def written_in(course):
    """The word that a block writes."""
    items = course.doer.written
    return Word(Making(row_of_items(items, 0, len(items)), 0, 1))


def block_differences(run, spot, one, other):
    """What differs behind two blocks that are done from a spot on."""
    found = found_spot(run._course, spot)
    courses = [done_block(sight_at(run._course, found), block) for block in (one, other)]
    left, right = [course.doer.tape.memory for course in courses]
    phases = run._course.world.phases
    known = {}
    differences = []
    if (courses[0].failed is None) != (courses[1].failed is None):
        differences.append("end")
    if state_of(left, phases, known) != state_of(right, phases, known):
        differences.append("state")
    if addresses_in(left) != addresses_in(right):
        differences.append("addresses")
    if list(left.things) != list(right.things) or left.births != right.births:
        differences.append("numbers")
    if written_in(courses[0]) != written_in(courses[1]):
        differences.append("log")
    return differences
