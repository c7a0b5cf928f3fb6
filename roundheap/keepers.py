"""What keeps the objects of a view: references, paths, and cuts."""

from roundheap.checks import is_count, is_integer, is_key, is_within, is_word
from roundheap.errors import InvalidArgument
from roundheap.flows import Net, cut_edges, fill, flow_paths
from roundheap.graphs import (
    begin_of, check_number, check_view, is_list_of_different, leading_to, reached_by, rows_in,
)

MOST_COST = 10 ** 6


def references(view):
    """The list of (reference, number of the object to which it leads)."""
    check_view(view)
    return rows_in(view)


def holders(view, number):
    """The references to an object."""
    check_view(view)
    check_number(view, number)
    return [reference for reference, target in rows_in(view) if target == number]


def path_to(found, number):
    """A path to an object, by the rows by which objects were reached."""
    path = []
    while number is not None:
        reference, _ = found[number]
        path.append(reference)
        number = begin_of(reference)
    return path[::-1]


def certificate(view, number):
    """("live", a path to an object), or ("dead", all objects from which fields lead to it)."""
    check_view(view)
    check_number(view, number)
    rows = rows_in(view)
    found = reached_by(rows, None)
    if number in found:
        return ("live", path_to(found, number))
    return ("dead", tuple(sorted(leading_to(rows, number))))


def end_of_path(targets, path):
    """The object to which a value of any kind leads as a path; None if it is no path."""
    if not isinstance(path, list):
        return None
    passed = {}
    place = None
    for reference in path:
        if not is_key(reference) or reference not in targets or begin_of(reference) != place:
            return None
        place = targets[reference]
        if place in passed:
            return None
        passed[place] = True
    return place


def is_closed(rows, number, things):
    """Whether objects are different, have an object among them, and all references to them are fields of them."""
    among = {thing: True for thing in things}
    if len(among) != len(things) or number not in among:
        return False
    for reference, target in rows:
        begin = begin_of(reference)
        if target in among and (begin is None or begin not in among):
            return False
    return True


def is_certificate(view, number, thing):
    """Whether a value of any kind is a certificate of an object."""
    check_view(view)
    check_number(view, number)
    if not isinstance(thing, tuple) or len(thing) != 2:
        return False
    rows = rows_in(view)
    if is_word(thing[0], "live"):
        return end_of_path(dict(rows), thing[1]) == number
    if not is_word(thing[0], "dead") or not isinstance(thing[1], tuple):
        return False
    if not all([is_integer(part) and part in view._memory.things for part in thing[1]]):
        return False
    return is_closed(rows, number, thing[1])


def on_every_path(view, number):
    """The objects that lie on every path to an object, in the order in which paths meet them; None without a path."""
    check_view(view)
    check_number(view, number)
    rows = rows_in(view)
    found = reached_by(rows, None)
    if number not in found:
        return None
    targets = dict(rows)
    passed = [targets[reference] for reference in path_to(found, number)]
    return [other for other in passed if number not in reached_by(rows, other)]


def retained(view, number):
    """(objects to which every path leads over an object, the sum of their sizes); None without a path."""
    check_view(view)
    check_number(view, number)
    rows = rows_in(view)
    found = reached_by(rows, None)
    if number not in found:
        return None
    others = reached_by(rows, number)
    kept = [other for other in sorted(found) if other not in others]
    return (tuple(kept), sum([view._memory.things[other].home[0] for other in kept]))


def costs_of(view, numbers, costs):
    """The cost of each reference; raise if numbers or costs are not as they must be."""
    if not isinstance(numbers, list) or not numbers:
        raise InvalidArgument("numbers")
    if not is_list_of_different(numbers, view._memory.things):
        raise InvalidArgument("numbers")
    told = {reference: 1 for reference, _ in rows_in(view)}
    if costs is None:
        return told
    if not isinstance(costs, dict):
        raise InvalidArgument("costs")
    for reference in costs:
        if not is_key(reference) or reference not in told or not is_within(costs[reference], 1, MOST_COST):
            raise InvalidArgument("costs")
    for reference in costs:
        told[reference] = costs[reference]
    return told


def cheapest_cut(view, numbers, *, costs=None):
    """(cost, references, paths): the cheapest references without which there is no path to some objects."""
    check_view(view)
    told = costs_of(view, numbers, costs)
    rows = rows_in(view)
    places = {number: index for index, number in enumerate(view._memory.things)}
    places[None] = len(places)
    edges = [(places[begin_of(reference)], places[target], told[reference]) for reference, target in rows]
    goals = {places[number]: True for number in numbers}
    net = Net(len(places), places[None], edges)
    fill(net, goals)
    cut = [rows[edge][0] for edge in cut_edges(net, goals)]
    paths = [([rows[edge][0] for edge in path], share) for path, share in flow_paths(net, goals)]
    return (sum([told[reference] for reference in cut]), cut, paths)


def cut_cost(view, numbers, thing, *, costs=None):
    """The cost of references without which there is no path to some objects; None for any other value."""
    check_view(view)
    told = costs_of(view, numbers, costs)
    if not is_list_of_different(thing, told):
        return None
    ended = {reference: True for reference in thing}
    found = reached_by([row for row in rows_in(view) if row[0] not in ended], None)
    if any([number in found for number in numbers]):
        return None
    return sum([told[reference] for reference in thing])


def is_share(value):
    """Whether a value is a tuple of two, the second one an integer from 1 on."""
    return isinstance(value, tuple) and len(value) == 2 and is_count(value[1]) and value[1] > 0


def paths_sum(view, numbers, thing, *, costs=None):
    """The sum of the shares of paths to some objects; None for any other value."""
    check_view(view)
    told = costs_of(view, numbers, costs)
    if not isinstance(thing, list) or not all([is_share(value) for value in thing]):
        return None
    targets = dict(rows_in(view))
    left = {reference: told[reference] for reference in told}
    for path, share in thing:
        end = end_of_path(targets, path)
        if end is None or end not in numbers:
            return None
        for reference in path:
            left[reference] -= share
            if left[reference] < 0:
                return None
    return sum([share for _, share in thing])
