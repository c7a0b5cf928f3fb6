"""What happens if references of a view end, and which objects wait for a collection."""

from roundheap.errors import InvalidArgument
from roundheap.graphs import check_view, is_list_of_different, leading_to, reached_by, rows_in
from roundheap.world import stride_of


class Ending:
    """References that end one after the other: those that are left, and the objects that were dropped (freed)."""

    def __init__(self, rows):
        self.left = dict(rows)
        self.fields = {}
        self.counts = {}
        self.dropped = []
        for reference, target in rows:
            if reference[0] == "field":
                self.fields.setdefault(reference[1], []).append(reference)
            self.counts[target] = self.counts.get(target, 0) + 1


def end(ending, reference):
    """Let a reference go, and free what it alone refers to, with all that this frees."""
    ways = [(None, [reference])]
    while ways:
        number, rest = ways.pop()
        if not rest:
            if number is not None:
                ending.dropped.append(number)
            continue
        ways.append((number, rest[1:]))
        if rest[0] not in ending.left:
            continue
        target = ending.left.pop(rest[0])
        ending.counts[target] -= 1
        if ending.counts[target] == 0:
            ways.append((target, list(ending.fields.get(target, []))))


def next_collection(view, level):
    """The number of the next numbered collection of at least a level."""
    stride = stride_of(view._world, level)
    return (view.collections() // stride + 1) * stride


def waiting_for(view, rows, freed):
    """The list of (number, level, collection) for the objects that are not freed and have no path."""
    found = reached_by(rows, None)
    things = view._memory.things
    gone = {number: True for number in freed}
    waiters = []
    for number in things:
        if number not in found and number not in gone:
            level = max([things[other].generation for other in leading_to(rows, number)])
            waiters.append((number, level, next_collection(view, level)))
    return waiters


def ended(view, references):
    """(freed, waiting): what happens if references end one after the other."""
    check_view(view)
    rows = rows_in(view)
    if not is_list_of_different(references, dict(rows)):
        raise InvalidArgument("references")
    ending = Ending(rows)
    for reference in references:
        end(ending, reference)
    left = [row for row in rows if row[0] in ending.left]
    return (list(ending.dropped), waiting_for(view, left, ending.dropped))


def waiting(view):
    """The list of (number, level, collection) for the objects that have no path."""
    check_view(view)
    return waiting_for(view, rows_in(view), [])
