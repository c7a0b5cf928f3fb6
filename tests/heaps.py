"""Views with small heaps by chance, and what is reckoned of them in the plainest way."""

import itertools

from roundheap.programs import Program
from roundheap.runs import Run

FIELDS = ["next", "left", "right"]
CLASSES = [("node", 1, FIELDS, False), ("pair", 2, FIELDS, False), ("wide", 3, FIELDS, True)]
FUNCTIONS = [("f", ["a"], ["b", "c"], [("new", "c", "node"), ("emit", "a")], None)]


def some_view(rng, most):
    """A view of some objects that refer to one another as it comes; some of them are dead."""
    names = ["x", "y", "z", "u"]
    body = []
    for _ in range(rng.randint(1, most)):
        body.append(("new", rng.choice(names), rng.choice(["node", "pair", "wide"])))
        for _ in range(rng.randint(0, 3)):
            one, other = rng.choice(names), rng.choice(names)
            step = rng.choice([("store", one, rng.choice(FIELDS), other)] * 3 + [("copy", one, other), ("load", other, one, rng.choice(FIELDS))])
            body.append(step if step[0] == "copy" else ("ifnil", one, [], [step]))
    body = body[:24] + [("clear", name) for name in names if rng.random() < 0.5]
    threshold, radices = rng.choice([(12, []), (3, [2]), (5, [2])])
    program = Program(CLASSES, body + [("call", None, "f", ["x"])], variables=names, weak=[], threshold=threshold, radices=radices,
                      functions=FUNCTIONS)
    return Run(program).view((len(body), 1) if rng.random() < 0.4 else (len(body),))


def targets_in(view, calls):
    """A dict from references to objects; calls are the lists of names and values of the open calls."""
    targets = {}
    for call, held in enumerate(calls):
        for index, value in enumerate(held):
            if value is not None:
                targets[("variable", call, index)] = value
    for number in view.objects():
        for name, value in view.row(number)[2].items():
            if value is not None:
                targets[("field", number, name)] = value
    return targets


def reached(targets, ended=(), barred=()):
    live, ways = set(), [target for reference, target in targets.items() if reference[0] == "variable" and reference not in ended]
    while ways:
        number = ways.pop()
        if number in live or number in barred:
            continue
        live.add(number)
        ways += [target for reference, target in targets.items() if reference[:2] == ("field", number) and reference not in ended]
    return live


def leading(targets, numbers, ended=()):
    """The objects from which fields lead to some, these too."""
    found = set(numbers)
    while True:
        more = {reference[1] for reference, target in targets.items() if reference[0] == "field" and target in found and reference not in ended}
        if more <= found:
            return found
        found |= more


def best_cut(targets, numbers, costs):
    """(cost, references): the least cut, by going through all; of several the one with the fewest that lead there."""
    order = list(targets)
    best = None
    for many in range(len(order) + 1):
        for ended in itertools.combinations(order, many):
            cost = sum(costs.get(reference, 1) for reference in ended)
            if best is not None and cost > best[0]:
                continue
            if reached(targets, ended) & set(numbers):
                continue
            key = (cost, len(leading(targets, numbers, ended)), list(ended))
            if best is None or key[:2] < best[:2]:
                best = key
    return best[0], best[2]


def all_paths(targets, number):
    """All paths to an object."""
    found, ways = [], [([reference], [target]) for reference, target in targets.items() if reference[0] == "variable"]
    while ways:
        path, passed = ways.pop()
        if passed[-1] == number:
            found.append((path, passed))
            continue
        for reference, target in targets.items():
            if reference[:2] == ("field", passed[-1]) and target not in passed:
                ways.append((path + [reference], passed + [target]))
    return found
