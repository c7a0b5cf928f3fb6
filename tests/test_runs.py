"""Runs, rhythms and views: [39] to [46]; compared with a plain memory for few rounds, and with near rounds far away."""

import random
import unittest

from compared import compare, same_views, told_by
from kinds import HUGE, all_but, make, odd_values
from programs_by_chance import growing_program, some_program
from roundheap.comparing import block_end
from roundheap.errors import Grown, InvalidName, InvalidNumber, InvalidSpot, LimitExceeded, NotReached
from roundheap.programs import Program
from roundheap.runs import Run, View
from roundheap.words import Word

FAR = 10 ** 30
NODE = ("node", 1, ["next"], False)


def run_of(body, classes=(NODE,), variables=("x", "y", "z", "u"), weak=("w",), threshold=1, radices=(), functions=()):
    return Run(Program(list(classes), body, variables=list(variables), weak=list(weak), threshold=threshold,
                       radices=list(radices), functions=list(functions)))


def turning(rounds, threshold=1):
    """Three objects go round in two variables."""
    inner = [("new", "z", "node"), ("copy", "x", "y"), ("copy", "y", "z"), ("clear", "z")]
    return run_of([("new", "x", "node"), ("new", "y", "node"), ("repeat", rounds, inner)], threshold=threshold)


class Base(unittest.TestCase):
    def raises(self, error, call, *arguments):
        with self.assertRaises(error) as caught:
            call(*arguments)
        self.assertIs(type(caught.exception), error)
        return caught.exception


class ByChance(Base):
    def test_programs(self):
        ways = {}
        for seed in range(220):
            rng = random.Random(seed)
            way = compare(self, rng, some_program(rng, rng.choice([0, 1, 2, 5, 9, 20, 31])))
            ways[way.split()[0]] = ways.get(way.split()[0], 0) + 1
        self.assertTrue(ways["done"] > 60 and ways["failed"] > 40, ways)

    def test_programs_that_grow(self):
        ways = []
        for seed in range(48):
            rng = random.Random(1000 + seed)
            ways += compare(self, rng, growing_program(rng, rng.choice([4, 8, 13, 17]))).split()
        self.assertTrue(ways.count("grows+") > 7 and ways.count("grown") > 0 and ways.count("failed") > 5, ways)


class Rhythms(Base):
    def test_over(self):
        self.assertEqual(run_of([("repeat", 0, [("new", "x", "node")])]).rhythm((0,)), ("over", 0))
        body = [("repeat", 3, [("new", "y", "node"), ("ifsame", "x", "u", [("new", "u", "node")], [("load", "x", "z", "next")])])]
        run = run_of(body)
        self.assertEqual([run.ended(), run.rhythm((0,))], [("failed", (0, 1, 1, 1, 0)), ("over", 2)])

    def test_returns_at_the_least_round(self):
        self.assertEqual(turning(FAR).rhythm((2,)), ("returns", 0, 1, 1))
        self.assertEqual(turning(FAR, 5).rhythm((2,)), ("returns", 0, 5, 5))
        self.assertEqual(turning(5, 5).rhythm((2,)), ("returns", 0, 5, 5))
        self.assertEqual(turning(4, 5).rhythm((2,)), ("over", 4))
        body = [("new", "x", "node"), ("new", "y", "node"), ("repeat", FAR, [("copy", "z", "y"), ("copy", "u", "z")])]
        run = run_of(body)
        self.assertEqual([run.rhythm((2,)), run.work()], [("returns", 1, 1, 2), 6])

    def test_rounds_without_statements(self):
        functions = [("swap", ["a", "b"], [], [], "b"), ("none", [], [], [], None)]
        body = [("new", "x", "node"), ("repeat", FAR, [("call", "y", "swap", ["y", "x"]), ("call", "x", "swap", ["y", "z"]),
                                                       ("call", "z", "swap", ["z", "y"])])]
        run = run_of(body, functions=functions)
        self.assertEqual([run.work(), run.rhythm((1,))[0], run.view((2,)).steps()], [1, "returns", 1])
        near = run_of(body[:1] + [("repeat", 7, body[1][2])], functions=functions)
        for number in range(7):
            same_views(self, run.view((1, number, 2)), near.view((1, number, 2)))
        run = run_of([("repeat", FAR, []), ("repeat", FAR, [("call", None, "none", []), ("ifnil", "x", [], [])])], functions=functions)
        self.assertEqual([run.rhythm((0,)), run.rhythm((1,)), run.work()], [("returns", 0, 1, 1), ("returns", 0, 1, 1), 0])

    def test_a_repeat_in_a_block_that_is_done_again_is_done_anew(self):
        inner = ("repeat", 50, [("ifnil", "x", [("new", "x", "node")], [("copy", "y", "x")])])
        run = run_of([("repeat", 3, [inner, ("clear", "x"), ("clear", "y"), ("new", "z", "node")])], threshold=7)
        self.assertEqual([run.rhythm((0, number, 0)) for number in range(3)], [("returns", 2, 1, 3)] * 3)
        self.assertEqual(run.work(), 3 * 6)

    def test_own_rhythms_far_away(self):
        functions = [("f", [], ["p", "q"], [("repeat", 9, [("ifnil", "p", [("new", "p", "node")], [("copy", "q", "p")])])], None)]
        inner = [("ifnil", "x", [("repeat", 5, [("copy", "y", "x")]), ("copy", "x", "z")], [("clear", "x"), ("call", None, "f", [])])]
        run = run_of([("new", "z", "node"), ("repeat", FAR, inner)], functions=functions, threshold=2)
        kind, first, period, rounds = run.rhythm((1,))
        self.assertEqual([kind, rounds <= 8, run.ended()], ["returns", True, ("done",)])
        self.assertEqual(run.rhythm((1, 0, 0, 0, 0)), ("returns", 0, 1, 1))
        for number in (1, 5, FAR - 1):
            self.assertEqual(run.rhythm((1, number, 0, 1, 1, 0)), ("returns", 2, 1, 3))
            self.raises(NotReached, run.rhythm, (1, number, 0, 0, 0))

    def test_which_spots(self):
        functions = [("f", [], ["p"], [("repeat", 4, [("new", "p", "node")])], None)]
        run = run_of([("new", "x", "node"), ("repeat", FAR, [("call", None, "f", []), ("emit", "x")])], functions=functions)
        self.assertEqual(run.rhythm((1, FAR - 1, 0, 0)), ("returns", 1, 1, 2))
        for spot in ((0,), (2,), (1, 0, 1), (1, 3, 0), (1, 5, 2), (1, 7, 0, 1), (1, 8, 0, 0, 3, 0)):
            self.assertEqual(self.raises(InvalidSpot, run.rhythm, spot).spot, spot)
        run = run_of([("load", "x", "y", "next"), ("repeat", 3, []), ("new", "x", "node")])
        self.raises(NotReached, run.rhythm, (1,))
        self.raises(NotReached, run.rhythm, (2,))
        self.raises(InvalidSpot, run.rhythm, (0,))
        self.raises(InvalidSpot, run.rhythm, (4,))


class SpotErrors(Base):
    BODY = [("new", "x", "node"), ("ifnil", "x", [("emit", "x")], [("repeat", 5, [("call", None, "f", ["x"])])]),
            ("ifsame", "x", "y", [], []), ("repeat", 0, [("emit", "x")]), ("load", "x", "y", "next"), ("emit", "x")]
    FUNCTIONS = [("f", ["a"], [], [("emit", "a")], None)]

    def test_values_of_all_kinds(self):
        run = run_of(self.BODY, functions=self.FUNCTIONS)
        for value in all_but(lambda value: isinstance(value, tuple) and value in ((0,), (1,), (2,))):
            self.assertIs(self.raises(InvalidSpot, run.view, value).spot, value)
            self.assertIs(self.raises(InvalidSpot, run.rhythm, value).spot, value)
            for spot in ((value,), (1, value), (1, 1, value), (1, 1, 0, value, 0), (1, 1, 0, 0, value), (1, 1, 0, 0, 0, value)):
                plain = type(value) is int and 0 <= value < 3
                if not plain:
                    self.assertIs(self.raises(InvalidSpot, run.view, spot).spot, spot)

    def test_spots_that_are_none(self):
        run = run_of(self.BODY, functions=self.FUNCTIONS)
        for spot in ((), (7,), (-1,), (0, 0), (1, 0), (1, 2, 0), (1, 0, 2), (1, 0, 0, 0), (1, 1, 2), (1, 1, 0, 0), (1, 1, 0, 5, 0),
                     (1, 1, 0, 4, 2), (1, 1, 0, 4, 0, 2), (1, 1, 0, 4, 0, 0, 0), (2, 0, 1), (3, 0, 0), (3, 0), (6, 0), [0],
                     (1, 1, 0, HUGE, 0), (True,), (1, True, 0), (1.0,)):
            self.assertIs(self.raises(InvalidSpot, run.view, spot).spot, spot)

    def test_spots_that_are_not_reached(self):
        run = run_of(self.BODY, functions=self.FUNCTIONS)
        for spot in ((1, 0, 0), (1, 0, 1), (2, 0, 0), (5,), (6,)):
            self.assertIs(self.raises(NotReached, run.view, spot).spot, spot)
        for spot in ((0,), (1,), (1, 1, 0), (1, 1, 0, 4, 0), (1, 1, 0, 4, 0, 1), (1, 1, 0, 4, 1), (1, 1, 1), (2,), (2, 1, 0), (3,), (4,)):
            self.assertIsInstance(run.view(spot), View)

    def test_behind_a_failure_in_a_round(self):
        inner = [("new", "z", "node"), ("ifnil", "y", [("copy", "y", "x")], [("load", "y", "y", "next"), ("load", "y", "y", "next")]), ("emit", "z")]
        run = run_of([("new", "x", "node"), ("repeat", 9, [("repeat", 4, inner), ("emit", "x")])])
        self.assertEqual([run.ended(), run.last_spot()], [("failed", (1, 0, 0, 1, 1, 1, 1)), (1, 0, 0, 1, 1, 1, 1)])
        self.assertEqual([run.rhythm((1,)), run.rhythm((1, 0, 0)), run.work()], [("over", 1), ("over", 2), 7])
        for spot in ((1, 0, 0, 1, 1, 1, 2), (1, 0, 0, 1, 2), (1, 0, 0, 1, 1, 0, 0), (1, 0, 0, 2, 0), (1, 0, 1), (1, 1, 0), (1, 8, 0, 3, 0), (2,)):
            self.raises(NotReached, run.view, spot)
        self.raises(InvalidSpot, run.view, (1, 0, 0, 4, 0))
        self.assertEqual(run.view((1, 0, 0, 1, 1, 1, 1)).steps(), 6)


class Limits(Base):
    def rings(self, more):
        """Rings of 97 and of 101 objects, built within an if so that the repeats do not grow."""
        body = []
        for name, many in (("x", 97), ("y", 101)):
            links = [("new", "u", "node"), ("store", "u", "next", name), ("copy", name, "u")]
            body += [("new", name, "node"), ("copy", "z", name), ("ifnil", "v", [("repeat", many - 1, links)], []),
                     ("store", "z", "next", name)]
        return body + [("clear", "z"), ("clear", "u")] + more

    def test_twenty_thousand_statements(self):
        # 2 rings: 2 * 3 + 3 * 196 + 2 statements, then two in each round.
        ahead = 2 * 3 + 3 * 196 + 2
        turn = [("load", "x", "x", "next"), ("load", "y", "y", "next")]
        rounds = (20000 - ahead) // 2
        variables = ("x", "y", "z", "u", "v")
        run = run_of(self.rings([("repeat", rounds, turn)]), variables=variables, threshold=12)
        self.assertEqual([run.work(), run.rhythm((10,)), run.ended()], [20000, ("over", rounds), ("done",)])
        self.assertEqual(run.view((11,)).steps(), 20000)
        for body in (self.rings([("repeat", rounds, turn), ("clear", "z")]), self.rings([("repeat", rounds + 1, turn)]),
                     self.rings([("repeat", FAR, turn)]), self.rings([("repeat", rounds, turn), ("load", "x", "z", "next")])):
            with self.assertRaises(LimitExceeded) as caught:
                run_of(body, variables=variables, threshold=12)
            self.assertEqual(caught.exception.limit, 20000)
        run = run_of(self.rings([("repeat", rounds - 1, turn), ("clear", "z"), ("load", "x", "z", "next")]), variables=variables, threshold=12)
        self.assertEqual([run.work(), run.ended()], [20000, ("failed", (12,))])

    def test_known_rounds_are_no_work(self):
        run = run_of([("repeat", FAR, [("repeat", FAR, [("repeat", FAR, [("clear", "x")]), ("clear", "x")]), ("clear", "x")])])
        self.assertEqual([run.work(), run.view((1,)).steps()], [3, FAR * (FAR * (FAR + 1) + 1)])

    def test_two_hundred_objects(self):
        links = [("new", "u", "node"), ("store", "u", "next", "x"), ("copy", "x", "u")]
        for many, fits in ((200, True), (201, False)):
            body = [("ifnil", "y", [("repeat", many, links)], [])]
            if fits:
                view = run_of(body).view((1,))
                self.assertEqual([view.count(), view.peak()], [200, (200, 200)])
                with self.assertRaises(LimitExceeded):
                    run_of(body + [("new", "z", "node")])
                # Only what there is behind a statement counts: the object of u goes with it.
                run_of(body + [("clear", "u"), ("load", "x", "x", "next"), ("new", "z", "node")])
            else:
                with self.assertRaises(LimitExceeded) as caught:
                    run_of(body)
                self.assertEqual(caught.exception.limit, 200)

    def test_the_collection_comes_ahead_of_the_limit(self):
        links = [("new", "u", "node"), ("store", "u", "next", "x"), ("copy", "x", "u")]
        body = [("ifnil", "y", [("repeat", 199, links)], []), ("new", "y", "node"), ("store", "y", "next", "y"), ("clear", "y"),
                ("new", "z", "node")]
        with self.assertRaises(LimitExceeded) as caught:
            run_of(body, threshold=12)
        self.assertEqual(caught.exception.limit, 200)
        # With this threshold a collection is run behind the object with the number 200.
        view = run_of(body, threshold=3).view((5,))
        self.assertEqual([view.count(), view.peak()], [200, (200, 200)])

    def test_the_first_limit_in_the_order_of_the_run(self):
        links = [("new", "u", "node"), ("store", "u", "next", "x"), ("copy", "x", "u")]
        grow = ("ifnil", "y", [("repeat", 300, links)], [])
        turn = [("load", "x", "x", "next"), ("load", "y", "y", "next")]
        with self.assertRaises(LimitExceeded) as caught:
            run_of([grow] + self.rings([("repeat", FAR, turn)]), variables=("x", "y", "z", "u", "v"), threshold=12)
        self.assertEqual(caught.exception.limit, 200)


NESTED = [("new", "x", "node"), ("repeat", FAR, [("new", "y", "node"), ("repeat", 10 ** 20, [
    ("repeat", 10 ** 25, [("new", "z", "node"), ("store", "z", "next", "y"), ("copy", "x", "u"), ("copy", "u", "z"), ("emit", "z")]),
    ("tag", "z", "two"), ("emit", "z"), ("clear", "u")]), ("clear", "z")])]
FEW = [("new", "x", "node"), ("repeat", 4, [("new", "y", "node"), ("repeat", 3, [
    ("repeat", 3, [("new", "z", "node"), ("store", "z", "next", "y"), ("copy", "x", "u"), ("copy", "u", "z"), ("emit", "z")]),
    ("tag", "z", "two"), ("emit", "z"), ("clear", "u")]), ("clear", "z")])]


class FarAway(Base):
    def test_near_rounds_are_the_same_in_a_run_of_any_length(self):
        near, far = turning(60), turning(FAR)
        for number in range(60):
            for index in range(5):
                same_views(self, near.view((2, number, index)), far.view((2, number, index)))

    def test_three_addresses_go_round(self):
        run = turning(FAR)
        for number in (10 ** 15, 10 ** 29 + 7, FAR - 1):
            view = run.view((2, number, 0))
            self.assertEqual([view.objects(), view.news(), view.steps()], [[number, number + 1], number + 2, 2 + 4 * number])
            self.assertEqual([view.address(number), view.address(number + 1)], [(1, number % 3), (1, (number + 1) % 3)])
            self.assertEqual([view.collections(), view.peak(), view.units()], [number + 2, (3, 3), 2])
        self.assertEqual(run.view((3,)).objects(), [FAR, FAR + 1])

    def test_a_round_behind_a_far_round(self):
        run = run_of(NESTED, threshold=2)
        self.assertEqual([run.rhythm(spot)[0] for spot in ((1,), (1, FAR - 1, 1), (1, 7, 1, 10 ** 19, 0))], ["returns"] * 3)
        outer, middle, inner = NESTED[1][2], NESTED[1][2][1][2], NESTED[1][2][1][2][0][2]
        for one in (0, 5, 10 ** 29):
            for two in (0, 3, 10 ** 19):
                for three in (0, 2, 10 ** 24):
                    path = (1, one, 1, two, 0)
                    begin = path + (three, 0)
                    _, view = block_end(run, begin, inner)
                    same_views(self, view, run.view(path + (three + 1, 0)))
                    _, view = block_end(run, begin, [("repeat", 10 ** 25 - three, inner)])
                    same_views(self, view, run.view((1, one, 1, two, 1)))
                    same_views(self, run.view(path + (10 ** 25 - 1, 5)), run.view((1, one, 1, two, 1)))
                _, view = block_end(run, (1, one, 1, two, 0), middle)
                same_views(self, view, run.view((1, one, 1, two + 1, 0)))
            _, view = block_end(run, (1, one, 0), outer)
            same_views(self, view, run.view((1, one + 1, 0)))
        _, view = block_end(run, (1, FAR - 1, 0), outer)
        same_views(self, view, run.view((2,)))

    def test_three_repeats_in_one_another_and_few_rounds(self):
        self.assertTrue(compare(self, random.Random(5), make(classes=[NODE], body=FEW, variables=["x", "y", "z", "u"], threshold=2, radices=[]), 400))

    def test_far_logs(self):
        run = run_of(NESTED, threshold=2)
        log = run.view((2,)).log()
        self.assertEqual(log.length(), FAR * 10 ** 20 * (10 ** 25 + 1))
        self.assertEqual(log, (Word([("emit", "node")]) * 10 ** 25 + Word([("emit", "two")])) * (FAR * 10 ** 20))
        log = run.view((1, 10 ** 29, 1, 7, 0, 3, 5)).log()
        self.assertEqual(log.length(), (10 ** 29 * 10 ** 20 + 7) * (10 ** 25 + 1) + 4)
        self.assertEqual([log[log.length() - 5], log[log.length() - 1]], [("emit", "two"), ("emit", "node")])
        # Its depth is 0 and it has one piece.
        for _ in range(6):
            log = log * 2
        self.raises(LimitExceeded, lambda: log * 2)
        word = run.view((2,)).log()
        for _ in range(999):
            word = word + Word([])
        self.raises(LimitExceeded, lambda: word + Word([]))

    def test_repeats_in_calls_far_away(self):
        inner = [("repeat", 10 ** 28, [("new", "p", "node"), ("store", "p", "next", "q"), ("copy", "q", "a"), ("emit", "p")]), ("tag", "p", "back")]
        functions = [("f", ["a"], ["p", "q"], inner, "p")]
        body = [("new", "x", "node"), ("repeat", FAR, [("ifnil", "u", [("call", "u", "f", ["x"])], [("copy", "y", "u"), ("clear", "u")])])]
        run = run_of(body, functions=functions, threshold=3)
        kind, first, period, _ = run.rhythm((1,))
        self.assertEqual(kind, "returns")
        for one in (0, 2, 10 ** 29, FAR - 2):
            for two in (0, 1, 10 ** 27, 10 ** 28 - 2):
                begin = (1, one, 0, 0, 0, 0, two, 0)
                _, view = block_end(run, begin, inner[0][2])
                same_views(self, view, run.view((1, one, 0, 0, 0, 0, two + 1, 0)))
            self.assertEqual(set(run.view((1, one, 0, 0, 0, 1)).variables()), {"a", "p", "q"})
            _, view = block_end(run, (1, one, 0), body[1][2])
            same_views(self, view, run.view((1, one + 1, 0)))
            self.raises(NotReached, run.view, (1, one, 0, 1, 0))

    def test_numbers_that_stay_and_numbers_that_rise(self):
        # A queue of four: each object is the last one, then the third one, and so on; another one stays.
        body = [("new", "u", "node"), ("new", "y", "node"), ("copy", "x", "y")]
        push = [("new", "z", "node"), ("store", "y", "next", "z"), ("copy", "y", "z"), ("clear", "z")]
        body += push * 3 + [("repeat", FAR, push + [("load", "x", "x", "next")])]
        run = run_of(body, threshold=2)
        near = run_of(body[:-1] + [("repeat", 30, body[-1][2])], threshold=2)
        self.assertEqual(run.rhythm((15,)), ("returns", 0, 2, 2))
        for number in range(30):
            same_views(self, run.view((15, number, 2)), near.view((15, number, 2)))
        self.assertEqual(run.view((15, FAR - 1, 0)).objects(), [0] + [FAR + k for k in range(4)])
        for number in (10 ** 20, FAR - 3):
            _, view = block_end(run, (15, number, 0), body[-1][2])
            same_views(self, view, run.view((15, number + 1, 0)))


class Views(Base):
    def view(self):
        body = [("new", "x", "node"), ("weak", "w", "x"), ("new", "y", "node"), ("store", "y", "next", "x"), ("tag", "y", "top")]
        run = run_of(body)
        return run.view(run.last_spot())

    def test_names(self):
        view = self.view()
        self.assertEqual([view.value(name) for name in ("x", "y", "z", "w")], [0, 1, None, 0])
        for value in all_but(lambda value: value in ("x",) if isinstance(value, str) else False):
            self.assertIs(self.raises(InvalidName, view.value, value).name, value)
        for name in ("next", "node", "a", "X"):
            self.raises(InvalidName, view.value, name)

    def test_numbers(self):
        view = self.view()
        for call in (view.row, view.address):
            for value in all_but(lambda value: type(value) is int and value in (0, 1)):
                self.assertIs(self.raises(InvalidNumber, call, value).number, value)

    def test_sizes(self):
        view = self.view()
        for value in all_but(lambda value: type(value) is int and 1 <= value <= 8):
            self.assertIs(self.raises(InvalidNumber, view.pool, value).number, value)
        for size in (0, 9, True):
            self.raises(InvalidNumber, view.pool, size)

    def test_what_is_returned_is_new(self):
        run = run_of([("new", "x", "node"), ("weak", "w", "x"), ("new", "y", "node"), ("store", "y", "next", "x"), ("tag", "y", "top")])
        view = run.view((5,))
        told = told_by(view)
        view.objects().append(7)
        view.variables()["x"] = 7
        view.weak().clear()
        view.row(1)[2]["next"] = 3
        view.pool(1)[0].append(4)
        self.assertEqual(told_by(view), told)
        self.assertEqual(told_by(run.view((5,))), told)

    def test_nothing_that_was_passed_in_is_changed(self):
        spot = (2, 5, 0)
        run = turning(9)
        self.assertEqual([run.view(spot).steps(), spot], [22, (2, 5, 0)])

    def test_the_beginning_of_all(self):
        view = run_of([]).view((0,))
        self.assertEqual([view.objects(), view.count(), view.units(), view.peak(), view.steps(), view.news()], [[], 0, 0, (0, 0), 0, 0])
        self.assertEqual([view.log() == Word([]), view.retired(), view.collections()], [True, (0, 0), 0])

    def test_peak(self):
        classes = [("big", 8, [], False), ("small", 1, [], False)]
        body = [("new", "x", "big"), ("clear", "x"), ("new", "x", "small"), ("new", "y", "small"), ("new", "z", "small"), ("clear", "x")]
        run = run_of(body, classes=classes)
        self.assertEqual([run.view((k,)).peak() for k in range(7)], [(0, 0), (1, 8), (1, 8), (1, 8), (2, 8), (3, 8), (3, 8)])
        # Ends of calls come behind a simple statement; the peak is that behind the statement.
        functions = [("f", [], ["a", "b"], [("new", "a", "big"), ("new", "b", "small")], None)]
        run = run_of([("call", None, "f", []), ("call", None, "f", [])], classes=classes, functions=functions)
        self.assertEqual([run.view((0, 2)).peak(), run.view((1,)).peak(), run.view((1,)).count()], [(2, 9), (2, 9), 0])
        # A new that takes the place of an object: two are never there behind the statement.
        run = run_of([("repeat", FAR, [("new", "x", "big")])], classes=classes)
        self.assertEqual(run.view((1,)).peak(), (1, 8))


class Returning(Base):
    def test_a_program_is_not_changed(self):
        program = make(body=[("repeat", 9, [("new", "x", "node")])])
        before = repr(program.body())
        Run(program)
        self.assertEqual(repr(program.body()), before)

    def test_odd_values_are_at_hand(self):
        self.assertGreater(len(odd_values()), 150)

    def test_grown_is_no_limit(self):
        body = [("repeat", FAR, [("new", "y", "node"), ("store", "y", "next", "x"), ("copy", "x", "y")]), ("load", "x", "x", "next"),
                ("load", "x", "x", "next")]
        self.assertEqual(self.raises(Grown, run_of, body).spot, (1,))


if __name__ == "__main__":
    unittest.main()
