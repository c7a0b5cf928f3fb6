"""Strips: the heap of a repeat that grows, and which references keep what it leaves."""

from roundheap.checks import is_key, is_within
from roundheap.errors import InvalidArgument, InvalidNumber
from roundheap.flows import Net, cut_edges, fill, flow_paths
from roundheap.growing import grown_turns
from roundheap.slots import leaving_of
from roundheap.strips import Heap, items_of, number_of, sort_of, targets_of, variable_targets

MOST_PERIODS = 1000


class Strip:
    """The heap of a repeat that grows at the beginning of a period."""

    def __init__(self, run, spot, periods):
        turns = grown_turns(run, spot)
        if not is_within(periods, 1, MOST_PERIODS):
            raise InvalidNumber(periods)
        course = run._course
        self._heap = Heap(course.doer, turns, periods)
        self._items = items_of(self._heap)
        self._indexes = {item: index for index, item in enumerate(self._items)}
        self._rows = rows_of(self._heap, self._items, course.world)

    def objects(self):
        return list(self._items)

    def number_for(self, item):
        if not is_key(item) or item not in self._indexes:
            raise InvalidArgument("item")
        return number_of(self._heap, item)

    def references(self):
        return list(self._rows)

    def dead_without(self, references):
        if not isinstance(references, list) or not all([is_key(value) for value in references]):
            raise InvalidArgument("references")
        ended = {value: True for value in references}
        rows = [row for row in self._rows if row[0] not in ended]
        if len(ended) != len(references) or len(rows) + len(ended) != len(self._rows):
            raise InvalidArgument("references")
        live = live_by(rows)
        return [item for item in self._items if item not in live]

    def cut(self, first, last):
        if not is_within(first, 0, self._heap.periods - 1):
            raise InvalidNumber(first)
        if not is_within(last, first, self._heap.periods - 1):
            raise InvalidNumber(last)
        slots = range(len(self._heap.leaving.slots))
        goals = {self._indexes[("left", slot, count)]: True for count in range(first, last + 1) for slot in slots}
        net = net_of(self._items, self._indexes, self._rows)
        fill(net, goals)
        references = [self._rows[edge][0] for edge in cut_edges(net, goals)]
        paths = []
        for path, _ in flow_paths(net, goals):
            paths.append([self._rows[edge][0] for edge in path])
        return (references, paths)


def rows_of(heap, items, world):
    """The list of (reference, object to which it leads)."""
    rows = []
    for index, target in enumerate(variable_targets(heap)):
        if target is not None:
            rows.append((("variable", index), target))
    for item in items:
        names = world.sorts[sort_of(heap, item)].fields
        for name, target in zip(names, targets_of(heap, item)):
            if target is not None:
                rows.append((("field", item, name), target))
    return rows


def live_by(rows):
    """A dict with the objects that variables reach by some references."""
    goes = {}
    live = {}
    for reference, target in rows:
        if reference[0] == "variable":
            live[target] = True
        else:
            goes.setdefault(reference[1], []).append(target)
    ways = list(live)
    while ways:
        item = ways.pop()
        for target in goes.get(item, []):
            if target not in live:
                live[target] = True
                ways.append(target)
    return live


def net_of(items, indexes, rows):
    """The graph of references, each of which costs 1; the variables are its source."""
    source = len(items)
    edges = []
    for reference, target in rows:
        begin = source if reference[0] == "variable" else indexes[reference[1]]
        edges.append((begin, indexes[target], 1))
    return Net(len(items) + 1, source, edges)


def leak_cut(run, spot):
    """(count, margin): how few references keep nearly all that a repeat leaves."""
    leaving = leaving_of(run._course.doer, grown_turns(run, spot))
    margin = 4 + len(leaving.slots) + len(leaving.period.ground.numbers)
    references, _ = Strip(run, spot, 3 * margin).cut(margin, 2 * margin)
    return (len(references), margin)
