"""What keeps objects: [71] to [75] and [77]; small views are gone through in the plainest way."""

import itertools
import random
import unittest

from heaps import all_paths, best_cut, leading, reached, some_view, targets_in
from kinds import HUGE, all_but, odd_values
from roundheap.errors import InvalidArgument, InvalidNumber
from roundheap.keepers import (
    certificate, cheapest_cut, cut_cost, holders, is_certificate, on_every_path, paths_sum, references, retained,
)
from roundheap.programs import Program
from roundheap.runs import Run

FAR = 10 ** 30
NODE = ("node", 1, ["next"], False)


def run_of(body, classes=(NODE,), variables=("x", "y", "z"), functions=(), threshold=12):
    return Run(Program(list(classes), body, variables=list(variables), weak=[], threshold=threshold, radices=[], functions=list(functions)))


def list_view(many=3):
    """x leads to a list of objects."""
    body = [("new", "x", "node"), ("copy", "y", "x")] + [("new", "z", "node"), ("store", "y", "next", "z"), ("copy", "y", "z")] * (many - 1)
    run = run_of(body + [("clear", "y"), ("clear", "z")])
    return run.view(run.last_spot())


def retired_view():
    head = [("new", "y", "node"), ("store", "y", "next", "x"), ("copy", "x", "y")]
    return run_of([("repeat", FAR, head)], threshold=1).view((1,))


class Base(unittest.TestCase):
    def raises(self, error, call, *arguments, **more):
        with self.assertRaises(error) as caught:
            call(*arguments, **more)
        self.assertIs(type(caught.exception), error)
        return caught.exception


def frames_of(view):
    """The values of the variables of the open calls, by the plain names of the programs of these tests."""
    targets = {}
    for reference, target in references(view):
        if reference[0] == "variable":
            targets[reference] = target
    return targets


class References(Base):
    def test_order(self):
        functions = [("f", ["b", "a"], ["d", "c"], [("new", "c", "node"), ("call", None, "g", ["c"])], None)]
        functions = [("g", ["q"], [], [("emit", "q")], None)] + functions
        classes = [("node", 1, ["next"], False), ("pair", 1, ["right", "left"], False)]
        body = [("new", "y", "pair"), ("new", "x", "node"), ("store", "y", "left", "x"), ("store", "y", "right", "y"), ("store", "x", "next", "x"),
                ("call", None, "f", ["x", "y"])]
        run = run_of(body, classes=classes, functions=functions)
        view = run.view((5, 1, 0))
        self.assertEqual(references(view), [
            (("variable", 0, 0), 1), (("variable", 0, 1), 0), (("variable", 1, 0), 1), (("variable", 1, 1), 0), (("variable", 1, 3), 2),
            (("variable", 2, 0), 2), (("field", 0, "right"), 0), (("field", 0, "left"), 1), (("field", 1, "next"), 1)])
        self.assertEqual(holders(view, 1), [("variable", 0, 0), ("variable", 1, 0), ("field", 0, "left"), ("field", 1, "next")])
        self.assertEqual(holders(view, 2), [("variable", 1, 3), ("variable", 2, 0)])
        self.assertEqual(references(run.view((0,))), [])

    def test_by_chance(self):
        rng = random.Random(1)
        for _ in range(60):
            view = some_view(rng, 9)
            rows = references(view)
            targets = dict(rows)
            fields = {reference: target for reference, target in targets.items() if reference[0] == "field"}
            self.assertEqual(fields, targets_in(view, []))
            order = {"next": 0, "left": 1, "right": 2}
            self.assertEqual([row[0] for row in rows], sorted(targets, key=lambda row: (row[0] == "field", row[1], order.get(row[2], row[2]))))
            for number in view.objects():
                self.assertEqual(holders(view, number), [reference for reference, target in rows if target == number])

    def test_far_views(self):
        turn = [("new", "y", "node"), ("store", "y", "next", "x"), ("copy", "z", "x"), ("copy", "x", "y"), ("wipe", "x", "next"), ("clear", "z")]
        view = run_of([("new", "x", "node"), ("repeat", FAR, turn)]).view((1, FAR - 1, 2))
        self.assertEqual(references(view)[-1], (("field", FAR, "next"), FAR - 1))
        self.assertEqual(retained(view, FAR - 1), ((FAR - 1,), 1))


class Certificates(Base):
    def test_by_chance(self):
        rng = random.Random(2)
        kinds = set()
        for _ in range(80):
            view = some_view(rng, 8)
            targets = dict(references(view))
            live = reached(targets)
            for number in view.objects():
                told = certificate(view, number)
                kinds.add(told[0])
                self.assertTrue(is_certificate(view, number, told))
                if number in live:
                    self.assertIn(told[1], [path for path, _ in all_paths(targets, number)])
                else:
                    self.assertEqual(told, ("dead", tuple(sorted(leading(targets, [number])))))
                for other in view.objects():
                    fits = other == number or told[0] == "dead" and other in told[1]
                    self.assertEqual(is_certificate(view, other, told), fits)
        self.assertEqual(kinds, {"live", "dead"})

    def test_any_path_and_any_tuple(self):
        rng = random.Random(3)
        for _ in range(25):
            view = some_view(rng, 5)
            targets = dict(references(view))
            for number in view.objects():
                paths = [path for path, _ in all_paths(targets, number)]
                for many in range(4):
                    for path in itertools.product(targets, repeat=many):
                        self.assertEqual(is_certificate(view, number, ("live", list(path))), list(path) in paths)
                        if len(targets) > 9 and many > 1:
                            break
                closed = [chosen for many in range(len(view.objects()) + 1) for chosen in itertools.permutations(view.objects(), many)
                          if number in chosen and all(reference[0] == "field" and reference[1] in chosen
                                                      for reference, target in targets.items() if target in chosen)]
                for chosen in itertools.permutations(view.objects(), min(3, len(view.objects()))):
                    self.assertEqual(is_certificate(view, number, ("dead", chosen)), chosen in closed)

    def test_values_of_all_kinds(self):
        view = list_view()
        path = [("variable", 0, 0), ("field", 0, "next")]
        self.assertTrue(is_certificate(view, 1, ("live", path)))
        for value in odd_values():
            self.assertFalse(is_certificate(view, 1, value))
            if value == path[1]:
                continue
            for thing in (("live", value), ("dead", value), (value, path), ("live", [value]), ("live", path + [value]), ("live", [path[0], value]),
                          ("dead", (value,)), ("dead", (0, value)), (value, (0,)), ("live", path, value)):
                self.assertFalse(is_certificate(view, 1, thing), thing)
        for thing in (["live", path], ("live", tuple(path)), ("dead", [0, 1]), ("live", [("variable", 0, False), path[1]]), ("live", []),
                      ("live", [["variable", 0, 0], path[1]]), ("live", [("variable", 0, 0), ("field", False, "next")]), ("live", path * 2)):
            self.assertFalse(is_certificate(view, 1, thing))
        self.assertFalse(is_certificate(view, 0, ("live", [("variable", 0, False)])))

    def test_dead_objects(self):
        run = run_of([("new", "x", "node"), ("store", "x", "next", "x"), ("new", "y", "node"), ("store", "y", "next", "x"), ("store", "x", "next", "x"),
                      ("copy", "z", "x"), ("store", "x", "next", "y"), ("clear", "x"), ("clear", "y"), ("clear", "z")])
        view = run.view((10,))
        self.assertEqual([certificate(view, 0), certificate(view, 1)], [("dead", (0, 1))] * 2)
        self.assertEqual([is_certificate(view, 0, ("dead", thing)) for thing in ((0, 1), (1, 0), (0,), (0, 1, 1), (), (False, 1))],
                         [True, True, False, False, False, False])
        self.assertEqual([on_every_path(view, 0), retained(view, 0), cheapest_cut(view, [0])], [None, None, (0, [], [])])


class Dominators(Base):
    def test_by_chance(self):
        rng = random.Random(4)
        for _ in range(70):
            view = some_view(rng, 8)
            targets = dict(references(view))
            for number in view.objects():
                paths = all_paths(targets, number)
                if not paths:
                    self.assertEqual([on_every_path(view, number), retained(view, number)], [None, None])
                    continue
                every = [other for other in paths[0][1] if all(other in passed for _, passed in paths)]
                self.assertEqual(on_every_path(view, number), every)
                kept = sorted(reached(targets) - reached(targets, barred=(number,)))
                self.assertEqual(retained(view, number), (tuple(kept), sum(view.address(other)[0] for other in kept)))
                self.assertEqual(every[-1], number)


class Cuts(Base):
    def check_paths(self, targets, numbers, costs, told):
        cost, _, paths = told
        used = {}
        for path, share in paths:
            self.assertTrue(type(share) is int and share > 0)
            self.assertIn(targets[path[-1]], numbers)
            passed = []
            for reference in path:
                self.assertTrue(reference[0] == "variable" if not passed else reference[:2] == ("field", passed[-1]))
                passed.append(targets[reference])
                used[reference] = used.get(reference, 0) + share
            self.assertEqual(len(set(passed)), len(passed))
        self.assertEqual(sum(share for _, share in paths), cost)
        for reference, share in used.items():
            self.assertLessEqual(share, costs.get(reference, 1))

    def test_all_cuts_of_small_views(self):
        rng = random.Random(5)
        done = 0
        while done < 60:
            view = some_view(rng, 6)
            targets = dict(references(view))
            if not view.objects() or len(targets) > 11:
                continue
            done += 1
            numbers = rng.sample(view.objects(), rng.randint(1, min(3, len(view.objects()))))
            costs = {reference: rng.choice([1, 2, 3, 7, 10 ** 6]) for reference in targets if rng.random() < 0.6}
            rng.shuffle(order := list(costs))
            for given in ({}, costs, {reference: costs[reference] for reference in order}):
                told = cheapest_cut(view, numbers, costs=given)
                self.assertEqual(told[:2], best_cut(targets, numbers, given))
                self.check_paths(targets, numbers, given, told)
                self.assertEqual(cut_cost(view, numbers, told[1], costs=given), told[0])
                self.assertEqual(paths_sum(view, numbers, told[2], costs=given), told[0])
            self.assertEqual(cheapest_cut(view, numbers)[:2], cheapest_cut(view, numbers[::-1], costs={})[:2])

    def test_greater_views(self):
        rng = random.Random(6)
        for _ in range(30):
            view = some_view(rng, 25)
            targets = dict(references(view))
            numbers = rng.sample(view.objects(), min(4, len(view.objects()))) if view.objects() else []
            if not numbers:
                continue
            costs = {reference: rng.randint(1, 10 ** 6) for reference in targets}
            told = cheapest_cut(view, numbers, costs=costs)
            self.check_paths(targets, numbers, costs, told)
            self.assertEqual(sum(costs[reference] for reference in told[1]), told[0])
            self.assertFalse(reached(targets, told[1]) & set(numbers))
            order = list(targets)
            self.assertEqual(told[1], sorted(told[1], key=order.index))

    def test_two_hundred_objects(self):
        classes = [("wide", 1, ["next", "left", "right"], False)]
        turn = [("new", "z", "wide"), ("store", "z", "next", "x"), ("store", "z", "left", "y"), ("copy", "y", "x"), ("copy", "x", "z"), ("ifnil", "u", [
            ("copy", "u", "z")], [("load", "v", "u", "right"), ("store", "u", "right", "z"), ("store", "z", "right", "v"), ("clear", "v")])]
        run = run_of([("ifnil", "x", [("repeat", 200, turn)], [])], classes=classes, variables=("x", "y", "z", "u", "v"))
        view = run.view((1,))
        targets = dict(references(view))
        for numbers in ([5], [100, 7, 150], list(range(0, 200, 3))):
            told = cheapest_cut(view, numbers)
            self.check_paths(targets, numbers, {}, told)
            self.assertFalse(reached(targets, told[1]) & set(numbers))
            self.assertEqual(len(told[1]), told[0])
        self.assertEqual(on_every_path(view, 199)[-1], 199)
        self.assertTrue(is_certificate(view, 0, certificate(view, 0)))

    def test_cut_costs(self):
        view = list_view(4)
        one, two, three = ("variable", 0, 0), ("field", 0, "next"), ("field", 1, "next")
        self.assertEqual(cheapest_cut(view, [3])[1], [("field", 2, "next")])
        self.assertEqual(cheapest_cut(view, [3], costs={("field", 2, "next"): 5, three: 5, one: 2, two: 3})[:2], (2, [one]))
        self.assertEqual([cut_cost(view, [2], thing) for thing in ([one], [two], [three, one], [], [("field", 2, "next")])], [1, 1, 2, None, None])
        self.assertEqual(cut_cost(view, [2], [one, two], costs={two: 9}), 10)
        for value in odd_values():
            if not (isinstance(value, list) and value == [one]):
                self.assertIsNone(cut_cost(view, [2], value))
            if not (isinstance(value, tuple) and value == two and type(value[1]) is int):
                self.assertIsNone(cut_cost(view, [2], [one, value]))
        for thing in ([one, one], (one,), {one: 1}, [["variable", 0, 0]], [("variable", 0, False)], [("variable", False, 0)], [("variable", 0, 1)]):
            self.assertIsNone(cut_cost(view, [2], thing))

    def test_paths_sums(self):
        view = list_view(3)
        path = [("variable", 0, 0), ("field", 0, "next")]
        costs = {("variable", 0, 0): 5, ("field", 0, "next"): 3}
        cases = [([], 0), ([(path, 1)], 1), ([(path, 3)], 3), ([(path, 1), (path, 2)], 3), ([(path, 2), (path, 2)], None), ([(path, 4)], None),
                 ([(path[:1], 1)], None), ([(path, 0)], None), ([(path, -1)], None), ([(path, True)], None), ([(path, 1.0)], None), ([path, 1], None),
                 ([[path, 1]], None), ([(tuple(path), 1)], None), ([(path, HUGE)], None), (((path, 1),), None), ([(path, 1, 1)], None),
                 ([([("variable", 0, False), path[1]], 1)], None), ([(path[:1], 2), (path, 3)], None)]
        for thing, told in cases:
            self.assertEqual(paths_sum(view, [1], thing, costs=costs), told)
        self.assertEqual(paths_sum(view, [0, 1], [(path[:1], 2), (path, 3)], costs=costs), 5)
        self.assertIsNone(paths_sum(view, [0, 1], [(path[:1], 3), (path, 3)], costs=costs))
        for value in odd_values():
            if not (isinstance(value, list) and value == []):
                self.assertIsNone(paths_sum(view, [1], value))
            self.assertIsNone(paths_sum(view, [1], [value]))
            self.assertIsNone(paths_sum(view, [1], [(value, 1)]))
            if not (isinstance(value, tuple) and value == path[1] and type(value[1]) is int):
                self.assertIsNone(paths_sum(view, [1], [([path[0], value], 1)]))
            if value != 1 or type(value) is not int:
                self.assertIsNone(paths_sum(view, [1], [(path, value)]))

    def test_shares_are_never_more_than_a_cut(self):
        rng = random.Random(7)
        for _ in range(30):
            view = some_view(rng, 6)
            if not view.objects():
                continue
            targets = dict(references(view))
            numbers = [rng.choice(view.objects())]
            cost = cheapest_cut(view, numbers)[0]
            paths = all_paths(targets, numbers[0])
            for _ in range(10):
                thing = [(path, rng.randint(1, 2)) for path, _ in rng.sample(paths, min(len(paths), 2))]
                told = paths_sum(view, numbers, thing)
                self.assertTrue(told is None or told <= cost)


class Errors(Base):
    CALLS = [holders, certificate, on_every_path, retained, lambda view, number: is_certificate(view, number, None)]

    def test_views_with_retired_objects(self):
        view = retired_view()
        self.assertEqual(self.raises(InvalidArgument, references, view).part, "view")
        for call in self.CALLS:
            self.assertEqual(self.raises(InvalidArgument, call, view, None).part, "view")
        for call in (cheapest_cut, lambda view, numbers, costs: cut_cost(view, numbers, [], costs=costs),
                     lambda view, numbers, costs: paths_sum(view, numbers, [], costs=costs)):
            arguments = (view, None) if call is cheapest_cut else (view, None, None)
            self.assertEqual(self.raises(InvalidArgument, call, *arguments).part, "view")

    def test_numbers_of_objects(self):
        view = list_view()
        for call in self.CALLS:
            for value in all_but(lambda value: type(value) is int and value in (0, 1, 2)):
                self.assertIs(self.raises(InvalidNumber, call, view, value).number, value)
        gone = run_of([("new", "x", "node"), ("new", "x", "node")]).view((2,))
        self.raises(InvalidNumber, holders, gone, 0)

    def test_numbers_and_costs(self):
        view = list_view()
        one = ("variable", 0, 0)
        calls = [lambda numbers, costs: cheapest_cut(view, numbers, costs=costs), lambda numbers, costs: cut_cost(view, numbers, [], costs=costs),
                 lambda numbers, costs: paths_sum(view, numbers, [], costs=costs)]
        for call in calls:
            for value in all_but(lambda value: isinstance(value, list) and value == [0]):
                if isinstance(value, list) and value == [1]:
                    continue
                self.assertEqual(self.raises(InvalidArgument, call, value, value).part, "numbers")
            for value in all_but(lambda value: type(value) is int and value in (1, 2)):
                self.assertEqual(self.raises(InvalidArgument, call, [0, value], {}).part, "numbers")
            for value in all_but(lambda value: value is None or isinstance(value, dict) and value == {}):
                self.assertEqual(self.raises(InvalidArgument, call, [0], value).part, "costs")
            for value in all_but(lambda value: type(value) is int and value in (1, 2)):
                self.assertEqual(self.raises(InvalidArgument, call, [0], {one: value}).part, "costs")
            for costs in ({("variable", 0, False): 1}, {("variable", 0, 1): 1}, {one: 10 ** 6 + 1}, {one: 0}, {"x": 1}, {one: 1, 3: 1}, [(one, 1)],
                          {("field", False, "next"): 2}, {(one,): 1}):
                self.assertEqual(self.raises(InvalidArgument, call, [0], costs).part, "costs")
            call([0], {one: 10 ** 6})
            for numbers in ([], [0, 0], [3], (0,), [True]):
                self.assertEqual(self.raises(InvalidArgument, call, numbers, {}).part, "numbers")

    def test_nothing_is_changed(self):
        view = list_view()
        numbers, costs = [1, 0], {("variable", 0, 0): 2}
        told = cheapest_cut(view, numbers, costs=costs)
        told[1].append(1)
        told[2].clear()
        references(view).clear()
        self.assertEqual([numbers, costs, len(references(view))], [[1, 0], {("variable", 0, 0): 2}, 3])
        self.assertTrue(frames_of(view))


if __name__ == "__main__":
    unittest.main()
