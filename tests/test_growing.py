"""Repeats that grow: [48] to [54]; compared with the same repeat played plainly, and far away with near."""

import random
import unittest

from compared import same_views, told_by
from kinds import HUGE, all_but
from played import play, some_that_grow
from programs_by_chance import growing_program
from roundheap.comparing import block_end
from roundheap.errors import Grown, InvalidArgument, InvalidNumber, InvalidSpot, NotReached
from roundheap.growing import Growing, growth_fault
from roundheap.programs import Program
from roundheap.runs import Run
from roundheap.words import Word

FAR = 10 ** 30
NODE = ("node", 1, ["next"], False)
HEAD = [("new", "y", "node"), ("store", "y", "next", "x"), ("copy", "x", "y")]
TAIL = [("new", "y", "node"), ("store", "x", "next", "y"), ("copy", "x", "y")]
HEAD_OF_V = [("new", "y", "node"), ("store", "y", "next", "v"), ("copy", "v", "y"), ("clear", "y")]


def run_of(body, classes=(NODE,), variables=("x", "y", "z", "u"), weak=("w",), threshold=1, radices=(), functions=()):
    return Run(Program(list(classes), body, variables=list(variables), weak=list(weak), threshold=threshold,
                       radices=list(radices), functions=list(functions)))


class Base(unittest.TestCase):
    def raises(self, error, call, *arguments, **parts):
        with self.assertRaises(error) as caught:
            call(*arguments, **parts)
        self.assertIs(type(caught.exception), error)
        return caught.exception


class ByChance(Base):
    @classmethod
    def setUpClass(cls):
        cls.grown = some_that_grow(0, 45, 22)

    def test_there_are_many(self):
        self.assertGreater(len(self.grown), 9)

    def test_what_a_period_does(self):
        for played in self.grown:
            growing = Growing(played.run, played.spot)
            one, other = played.snap(0), played.snap(1)
            self.assertEqual(growing.rhythm(), (played.first, played.period))
            self.assertEqual([growing.news(), growing.steps()], [other[3] - one[3], other[4] - one[4]])
            self.assertEqual(growing.log(), Word(played.plain.log[one[5]:other[5]]))
            self.assertEqual(growing.count(), len(other[0]) - len(one[0]))
            sizes = [[row["address"][0] for row in snap[0].values()] for snap in (one, other)]
            self.assertEqual(growing.units(), sum(sizes[1]) - sum(sizes[0]))
            for size in range(1, 9):
                self.assertEqual(growing.shift(size), sizes[1].count(size) - sizes[0].count(size))

    def test_what_is_left(self):
        for played in self.grown:
            growing = Growing(played.run, played.spot)
            for count in range(played.periods):
                objects = played.parts(count + 1)[0]
                left = played.left(count)
                self.assertEqual(growing.leaked(), [(objects[number]["class"], objects[number]["tag"]) for number in left])
                for slot, number in enumerate(left):
                    self.assertEqual(growing.number_at(slot, count), number)
                    self.assertEqual(growing.address_at(slot, count), objects[number]["address"])

    def test_rules(self):
        for played in self.grown:
            growing = Growing(played.run, played.spot)
            for slot in range(growing.count()):
                begin, number, address = growing.rule(slot)
                size = growing.address_at(slot, 0)[0]
                row = [(growing.number_at(slot, count), growing.address_at(slot, count)[1]) for count in range(120)]
                self.assertEqual(row[begin], (number, address))
                step = (growing.news(), growing.shift(size))
                holds = [(later[0] - one[0], later[1] - one[1]) == step for one, later in zip(row, row[1:])]
                self.assertTrue(all(holds[begin:]))
                self.assertFalse(begin > 0 and holds[begin - 1])

    def test_fates(self):
        for played in self.grown:
            for number, fate in zip(played.parts(0)[1], Growing(played.run, played.spot).fates(), strict=True):
                told = None
                for count in range(1, played.periods + 1):
                    objects, _, left = played.parts(count)
                    if told is None and number not in objects:
                        told = ("dies", count)
                    if told is None and number in left:
                        told = ("left", count, played.left(count - 1).index(number))
                if told is None:
                    self.assertTrue(fate == ("stays",) or fate[1] > played.periods, fate)
                else:
                    self.assertEqual(fate, told)

    def test_faults(self):
        words = set()
        for seed in range(45):
            rng = random.Random(500 + seed)
            played = play(growing_program(rng, 12))
            if played is None:
                continue
            plain, run, _ = played
            for spot, repeat in plain.repeats.items():
                done = run.rhythm(spot)[-1] if repeat.rhythm else len(repeat.snaps) - 1
                for _ in range(12):
                    if len(spot) > 1 or done < 2:
                        break
                    period = rng.randint(1, done // 2)
                    first = rng.randint(0, done - 2 * period)
                    fault = plain.fault(repeat, first, period)
                    words.add(fault)
                    self.assertEqual(growth_fault(run, spot, first, period), fault)
        self.assertTrue({None, "phase", "size", "objects", "entries"} <= words, words)


class Conditions(Base):
    """Each condition, by a repeat that does not fulfil it."""

    def test_phase(self):
        run = run_of([("new", "x", "node"), ("repeat", FAR, HEAD)], threshold=4)
        self.assertEqual(run.rhythm((1,)), ("grows", 2, 4, 10))
        self.assertEqual([growth_fault(run, (1,), 2, period) for period in (1, 2, 3, 4)], ["phase"] * 3 + [None])
        # Here also the radices count.
        run = run_of([("new", "x", "node"), ("repeat", FAR, HEAD)], threshold=2, radices=[3])
        self.assertEqual([run.rhythm((1,))[2], growth_fault(run, (1,), 1, 2), growth_fault(run, (1,), 1, 3)], [6, "phase", "phase"])

    def test_size(self):
        run = run_of([("new", "x", "node"), ("repeat", 9, [("copy", "x", "x"), ("emit", "x")])])
        self.assertEqual(run.rhythm((1,)), ("returns", 0, 1, 1))
        run = run_of([("new", "x", "node"), ("new", "y", "node"), ("repeat", 9, [("copy", "z", "y"), ("copy", "y", "x"), ("copy", "x", "z")])])
        self.assertEqual([run.rhythm((2,)), growth_fault(run, (2,), 0, 1)], [("returns", 1, 2, 3), "size"])

    def test_objects(self):
        run = run_of([("new", "x", "node"), ("repeat", FAR, HEAD)])
        self.assertEqual(run.rhythm((1,)), ("grows", 2, 1, 4))
        self.assertEqual([growth_fault(run, (1,), first, 1) for first in (0, 1, 2)], ["objects", "objects", None])
        # As many objects, but other tags.
        body = [("new", "x", "node"), ("repeat", 8, HEAD + [("ifnil", "z", [("copy", "z", "x"), ("tag", "x", "odd")], [("clear", "z")])])]
        run = run_of(body)
        self.assertEqual([run.rhythm((1,))[2], growth_fault(run, (1,), 2, 1)], [2, "objects"])

    def test_left(self):
        # A pointer goes along behind the tail: what lies between them is touched later.
        ahead = [("new", "x", "node"), ("copy", "u", "x"), ("copy", "z", "x")] + TAIL * 4
        run = run_of(ahead + [("repeat", FAR, TAIL + [("load", "z", "z", "next")])])
        kind, first, period, _ = run.rhythm((len(ahead),))
        self.assertEqual([kind, period], ["grows", 3])
        faults = [growth_fault(run, (len(ahead),), first, size) for size in (1, 2, 3)]
        self.assertEqual(faults, ["left", "left", None])

    def test_entries(self):
        # Every other round the list is hung on another object: its entries are others.
        turn = [("copy", "z", "x"), ("copy", "x", "u"), ("copy", "u", "z"), ("clear", "z")]
        run = run_of([("new", "x", "node"), ("new", "u", "node"), ("repeat", FAR, HEAD + [("clear", "y")] + turn)])
        self.assertEqual(run.rhythm((2,))[2], 2)
        words = [growth_fault(run, (2,), first, 1) for first in range(run.rhythm((2,))[3] - 1)]
        self.assertTrue(set(words) <= {"objects", "entries"}, words)

    def test_least_rounds_then_shortest_period(self):
        for played in some_that_grow(300, 325, 12):
            rounds = played.repeat.rhythm[3]
            for last in range(2, rounds + 1):
                fits = [period for period in range(1, last // 2 + 1)
                        if growth_fault(played.run, played.spot, last - 2 * period, period) is None]
                self.assertEqual(fits[:1], [played.period] if last == rounds else [])

    def rings(self, many, more):
        """Two rings along which two variables go; each time the first one is back, a list grows."""
        body = []
        for name, count in (("x", many), ("z", more)):
            links = [("new", "y", "node"), ("store", "y", "next", name), ("copy", name, "y")]
            body += [("new", name, "node"), ("copy", "u", name), ("ifnil", "v", [("repeat", count - 1, links)], []),
                     ("store", "u", "next", name)]
        inner = [("load", "x", "x", "next"), ("load", "z", "z", "next"), ("ifsame", "x", "u", HEAD_OF_V, [])]
        return body + [("copy", "u", "x"), ("clear", "y"), ("repeat", FAR, inner)]

    def test_growth_that_is_found_late(self):
        variables = ("x", "y", "z", "u", "v")
        for many, more, rhythm in ((2, 3, ("grows", 4, 6, 16)), (4, 3, ("grows", 8, 12, 32)), (1, 1, ("grows", 2, 1, 4))):
            run = run_of(self.rings(many, more), variables=variables)
            self.assertEqual(run.rhythm((10,)), rhythm)
            for last in range(2, rhythm[3] + 1):
                fits = [period for period in range(1, last // 2 + 1)
                        if growth_fault(run, (10,), last - 2 * period, period) is None]
                self.assertEqual(fits[:1], [rhythm[2]] if last == rhythm[3] else [])
        # Rings as long as these are gone along soon, too.
        run = run_of(self.rings(40, 37), variables=variables)
        self.assertEqual(run.rhythm((10,)), ("grows", 80, 1480, 3040))

    def test_a_state_that_returns_goes_first(self):
        run = run_of([("new", "x", "node"), ("repeat", FAR, [("ifnil", "y", TAIL[:1] + [("store", "x", "next", "y")], [])])])
        self.assertEqual(run.rhythm((1,)), ("returns", 1, 1, 2))

    def test_only_repeats_in_the_body_itself(self):
        body = [("new", "x", "node"), ("ifnil", "y", [("repeat", 150, HEAD)], [])]
        self.assertEqual(run_of(body).rhythm((1, 0, 0)), ("over", 150))
        body = [("new", "x", "node"), ("repeat", 1, [("repeat", 150, HEAD)])]
        self.assertEqual(run_of(body).rhythm((1, 0, 0)), ("over", 150))
        functions = [("f", ["x"], ["y"], [("repeat", 150, HEAD)], None)]
        run = run_of([("new", "x", "node"), ("call", None, "f", ["x"])], functions=functions)
        self.assertEqual(run.rhythm((1, 0)), ("over", 150))

    def test_growth_seen_behind_the_last_round(self):
        run = run_of([("new", "x", "node"), ("repeat", 4, HEAD)])
        self.assertEqual([run.rhythm((1,)), run.view((2,)).retired()], [("grows", 2, 1, 4), (0, 0)])
        self.assertEqual(run_of([("new", "x", "node"), ("repeat", 5, HEAD)]).view((2,)).retired(), (4, 4))
        self.assertEqual(run_of([("new", "x", "node"), ("repeat", 3, HEAD)]).rhythm((1,)), ("over", 3))


class FaultErrors(Base):
    def setUp(self):
        inner = [("repeat", 6, [("copy", "z", "x")])]
        self.body = [("new", "x", "node"), ("repeat", FAR, HEAD + inner), ("repeat", 7, [("new", "u", "node"), ("emit", "u")]),
                     ("repeat", 5, [("ifsame", "x", "u", [], [("new", "z", "node"), ("load", "z", "z", "no"), ("load", "z", "z", "next")])])]

    def test_spots(self):
        run = run_of(self.body[:3])
        for value in all_but(lambda value: isinstance(value, tuple) and value in ((0,), (1,), (2,), (3,))):
            self.assertIs(self.raises(InvalidSpot, growth_fault, run, value, 0, 1).spot, value)
            self.assertIs(self.raises(InvalidSpot, Growing, run, value).spot, value)
        self.raises(InvalidSpot, growth_fault, run, (0,), None, None)
        self.assertEqual(self.raises(InvalidArgument, growth_fault, run, (1, 5, 3), None, None).part, "spot")
        self.assertEqual(self.raises(InvalidArgument, Growing, run, (1, 5, 3)).part, "spot")
        self.assertEqual(self.raises(InvalidArgument, Growing, run, (2,)).part, "spot")
        failing = run_of([("load", "x", "y", "next"), ("repeat", 3, [])])
        self.raises(NotReached, growth_fault, failing, (1,), 0, 1)
        self.raises(NotReached, Growing, failing, (1,))

    def test_numbers(self):
        run = run_of(self.body[:2])
        kind, first, period, rounds = run.rhythm((1,))
        self.assertEqual(kind, "grows")
        for value in all_but(lambda value: type(value) is int and 0 <= value <= rounds):
            self.assertIs(self.raises(InvalidNumber, growth_fault, run, (1,), value, value).number, value)
        for value in all_but(lambda value: type(value) is int and 1 <= value <= rounds // 2):
            self.assertIs(self.raises(InvalidNumber, growth_fault, run, (1,), 0, value).number, value)
        self.assertEqual(self.raises(InvalidNumber, growth_fault, run, (1,), rounds + 1, "a").number, rounds + 1)
        self.assertEqual(self.raises(InvalidNumber, growth_fault, run, (1,), rounds, "a").number, "a")
        self.assertEqual(self.raises(InvalidNumber, growth_fault, run, (1,), rounds - 1, 1).number, 1)
        self.assertIsNone(growth_fault(run, (1,), rounds - 2 * period, period))

    def test_a_round_that_failed_is_not_done(self):
        body = [("new", "x", "node"), ("repeat", 9, [("ifnil", "y", [("new", "y", "node")], [("ifnil", "z", [("new", "z", "node")], [
            ("load", "u", "u", "next")])])])]
        run = run_of(body)
        self.assertEqual([run.rhythm((1,)), run.ended()[0]], [("over", 3), "failed"])
        self.assertEqual(growth_fault(run, (1,), 0, 1), "objects")
        self.assertEqual(self.raises(InvalidNumber, growth_fault, run, (1,), 1, 1).number, 1)
        self.assertEqual(self.raises(InvalidNumber, growth_fault, run, (1,), 2, 1).number, 1)
        self.assertEqual(self.raises(InvalidNumber, growth_fault, run, (1,), 3, 1).number, 3)


class Retired(Base):
    def test_which_objects_and_when(self):
        run = run_of([("new", "x", "node"), ("repeat", FAR, HEAD), ("emit", "x")])
        self.assertEqual(run.rhythm((1,)), ("grows", 2, 1, 4))
        self.assertEqual(run.view((1, 4, 3)).objects(), [0, 1, 2, 3, 4, 5])
        view = run.view((1, 5, 0))
        self.assertEqual([view.objects(), view.retired(), view.count(), view.row(5)], [[0, 5], (4, 4), 6, ("node", "node", {"next": "retired"}, 0, (1, 5))])
        for number in (6, 10 ** 29, FAR - 1):
            view = run.view((1, number, 0))
            self.assertEqual([view.objects(), view.retired(), view.news(), view.units()], [[0, number], (number - 1, number - 1), number + 1, number + 1])
            self.assertEqual([view.variables()["x"], view.address(number), view.pool(1)], [number, (1, number), ([], number + 1)])
            self.assertEqual([view.peak(), view.steps()], [(number + 1, number + 1), 3 * number + 1])
            self.assertEqual(run.view((1, number, 1)).objects(), [0, number, number + 1])
            for gone in (1, 3, number - 1):
                self.raises(InvalidNumber, view.row, gone)
                self.raises(InvalidNumber, view.address, gone)
        view = run.view((3,))
        self.assertEqual([view.objects(), view.retired(), view.log()], [[0, FAR], (FAR - 1, FAR - 1), Word([("emit", "node")])])

    def test_longer_periods(self):
        run = run_of([("new", "x", "node"), ("repeat", 1000, HEAD)], threshold=4)
        # Behind r rounds: those that were there behind 6 + 4 * k rounds.
        self.assertEqual(run.rhythm((1,)), ("grows", 2, 4, 10))
        for number in range(11, 31):
            begin = 6 + (number - 6) // 4 * 4
            self.assertEqual(run.view((1, number, 0)).objects(), [0] + list(range(begin, number + 1)))
        self.assertEqual(run.view((1, 10, 0)).objects(), list(range(11)))
        self.assertEqual(run.view((2,)).objects(), [0] + list(range(998, 1001)))

    def test_rounds_far_away_follow_one_another(self):
        body = [("new", "x", "node"), ("new", "u", "node"), ("repeat", FAR, HEAD + [("weak", "w", "x"), ("clear", "y"), ("emit", "x"), (
            "repeat", 10 ** 20, [("new", "z", "node"), ("tag", "z", "t")])])]
        run = run_of(body, threshold=2, classes=[("node", 3, ["next"], True)])
        self.assertEqual(run.rhythm((2,))[0], "grows")
        for number in (20, 10 ** 28, 10 ** 28 + 1, FAR - 2):
            _, view = block_end(run, (2, number, 0), body[2][2])
            later = run.view((2, number + 1, 0))
            # An object that the block leaves is retired behind the period alone.
            same_views(self, view, later, but=("rows", "retired"))
            self.assertEqual(view.log(), later.log())
            for other in later.objects():
                self.assertEqual(view.row(other)[::4], later.row(other)[::4])
            _, view = block_end(run, (2, number, 6, 10 ** 19, 0), body[2][2][6][2])
            same_views(self, view, run.view((2, number, 6, 10 ** 19 + 1, 0)))

    def test_what_retired_objects_refer_to_is_kept(self):
        # Each object of the list refers to the object of z, which no variable refers to behind the repeat.
        classes = [("node", 1, ["next", "top"], True)]
        turn = HEAD + [("store", "y", "top", "z"), ("clear", "y")]
        body = [("new", "z", "node"), ("tag", "z", "top"), ("repeat", FAR, turn), ("clear", "z"), ("collect", 0)]
        view = run_of(body, classes=classes).view((5,))
        self.assertEqual([view.row(0)[1], view.log().length(), len(view.objects())], ["top", 0, 2])

    def test_two_repeats_that_grow(self):
        classes = [("node", 1, ["next"], False), ("pair", 2, ["next"], False)]
        other = [("new", "y", "pair"), ("store", "y", "next", "u"), ("copy", "u", "y")]
        run = run_of([("new", "x", "node"), ("repeat", FAR, HEAD), ("clear", "y"), ("new", "u", "node"), ("repeat", FAR, other)], classes=classes)
        self.assertEqual([run.rhythm((1,))[0], run.rhythm((4,))[0]], ["grows", "grows"])
        view = run.view((5,))
        self.assertEqual([view.retired(), view.units(), len(view.objects())], [(2 * FAR - 2, 3 * FAR - 3), 3 * FAR + 2, 4])
        self.assertEqual(view.row(FAR)[2], {"next": "retired"})
        self.assertEqual(run.view((4, 2, 0)).retired(), (FAR - 1, FAR - 1))

    def test_logs_and_peaks_of_growth(self):
        turn = [("new", "y", "node"), ("new", "z", "node"), ("emit", "x"), ("store", "y", "next", "x"), ("copy", "x", "y"), ("clear", "y"), ("clear", "z")]
        run = run_of([("new", "x", "node"), ("repeat", FAR, turn), ("emit", "y")], classes=[("node", 2, ["next"], False)])
        view = run.view((3,))
        self.assertEqual([view.peak(), view.count()], [(FAR + 2, 2 * FAR + 4), FAR + 1])
        self.assertEqual(view.log(), Word([("emit", "node")]) * FAR + Word([("emit", None)]))
        self.assertEqual([run.view((1, FAR - 1, index)).peak()[0] - FAR for index in range(8)], [1, 1, 2, 2, 2, 2, 2, 2])


class Touching(Base):
    AHEAD = [("new", "x", "node"), ("copy", "z", "x"), ("repeat", FAR, HEAD + [("clear", "y")])]

    def grown(self, more, **parts):
        return self.raises(Grown, run_of, self.AHEAD + more, **parts).spot

    def test_the_statement_that_touches(self):
        self.assertEqual(self.grown([("load", "y", "x", "next")]), (3,))
        self.assertEqual(self.grown([("emit", "x"), ("wipe", "x", "next")]), (4,))
        self.assertEqual(self.grown([("clear", "x")]), (3,))
        self.assertEqual(self.grown([("new", "x", "node")]), (3,))
        self.assertEqual(self.grown([("store", "x", "next", "z")]), (3,))
        self.assertEqual(self.grown([("ifnil", "u", [("repeat", 3, [("clear", "x")])], [])]), (3, 0, 0, 0, 0))
        run = run_of(self.AHEAD + [("emit", "x"), ("tag", "x", "t"), ("copy", "y", "x"), ("emit", "z"), ("clear", "y"), ("ifnil", "x", [], [])])
        self.assertEqual([run.ended(), run.view((9,)).row(FAR)[1]], [("done",), "t"])

    def grown_variable(self, more, functions=()):
        """Behind a repeat whose list is referred to by u at its first object."""
        ahead = [("new", "x", "node"), ("copy", "z", "x"), ("repeat", FAR, [("ifnil", "u", [("new", "u", "node"), ("weak", "w", "u"), (
            "store", "u", "next", "x"), ("copy", "x", "u")], HEAD)])]
        return self.raises(Grown, run_of, ahead + more, functions=functions).spot

    def test_variables_that_refer_to_retired_objects(self):
        run = run_of([("new", "x", "node"), ("copy", "z", "x"), ("repeat", FAR, [("ifnil", "u", [("new", "u", "node"), ("weak", "w", "u"), (
            "store", "u", "next", "x"), ("copy", "x", "u")], HEAD)])])
        view = run.view((3,))
        self.assertEqual([view.value("u"), view.weak(), view.variables()["u"]], ["retired", {"w": "retired"}, "retired"])
        self.assertEqual(told_by(view)["retired"], (FAR - 1, FAR - 1))
        touching = [("copy", "u", "x"), ("clear", "u"), ("copy", "x", "u"), ("emit", "u"), ("tag", "u", "t"), ("load", "x", "u", "next"),
                    ("store", "u", "next", "x"), ("wipe", "u", "next"), ("weak", "w", "u"), ("get", "x", "w"),
                    ("new", "u", "node"), ("store", "z", "next", "u"), ("ifsame", "u", "x", [], []), ("ifsame", "y", "u", [], [])]
        for statement in touching:
            self.assertEqual(self.grown_variable([("emit", "x"), statement]), (4,), statement)
        ahead = [("new", "x", "node"), ("copy", "z", "x"), ("repeat", FAR, [("ifnil", "u", [("new", "u", "node"), ("weak", "w", "u"), (
            "store", "u", "next", "x"), ("copy", "x", "u")], HEAD)])]
        run = run_of(ahead + [("ifnil", "u", [("emit", "u")], [("emit", "z")]), ("weak", "w", "z"), ("get", "y", "w")])
        self.assertEqual([run.ended(), run.view((6,)).value("y"), run.view((6,)).value("u")], [("done",), 0, "retired"])

    def test_calls(self):
        functions = [("f", ["a"], ["b"], [("clear", "b")], "a"), ("g", [], ["b"], [("new", "b", "node")], "b"),
                     ("h", ["a"], ["b"], [("copy", "b", "a")], None)]
        self.assertEqual(self.grown_variable([("call", None, "f", ["u"])], functions), (3,))
        self.assertEqual(self.grown_variable([("call", "u", "g", [])], functions), (3, 1))
        self.assertEqual(self.grown_variable([("ifnil", "x", [], [("call", "u", "g", [])])], functions), (3, 1, 0, 1))
        ahead = [("new", "x", "node"), ("copy", "z", "x"), ("repeat", FAR, HEAD + [("clear", "y")])]
        # The last object of the list is let go at the end of the function, and with it its field.
        functions = [("f", ["a"], [], [], "a"), ("g", ["a"], ["b"], [("copy", "b", "a")], None)]
        run = run_of(ahead + [("call", "y", "f", ["x"])], functions=functions)
        self.assertEqual(run.view((4,)).value("y"), FAR)
        spot = self.raises(Grown, run_of, ahead + [("call", "x", "f", ["z"])], functions=functions).spot
        self.assertEqual(spot, (3, 0))
        functions = [("g", ["a"], ["b"], [("copy", "b", "a"), ("clear", "a")], None)]
        run = run_of(ahead + [("call", None, "g", ["x"])], functions=functions)
        self.assertEqual(run.ended(), ("done",))

    def test_locals_that_are_let_go(self):
        # A ring that holds a retired object dies at the end of a call.
        functions = [("f", ["a"], ["b"], [("copy", "b", "a"), ("clear", "a"), ("wipe", "b", "next")], None)]
        spot = self.raises(Grown, run_of, self.AHEAD + [("call", None, "f", ["x"])], functions=functions).spot
        self.assertEqual(spot, (3, 2))

    def test_collections(self):
        # The last object of the list refers to a retired one and to itself; then no variable refers to it.
        classes = [("node", 1, ["next", "own"], False)]
        turn = HEAD + [("clear", "y")]
        ahead = [("new", "x", "node"), ("repeat", FAR, turn), ("store", "x", "own", "x"), ("copy", "y", "x"), ("clear", "y")]
        run = run_of(ahead + [("collect", 0), ("collect", 1)], classes=classes, threshold=1, radices=[2])
        self.assertEqual(run.ended(), ("done",))
        dead = ahead + [("weak", "w", "x"), ("clear", "x")]
        self.assertEqual(self.raises(Grown, run_of, dead + [("collect", 1)], classes=classes, threshold=1, radices=[2]).spot, (7,))
        # A collection of a lower level does not look at old objects.
        self.assertEqual(run_of(dead + [("collect", 0)], classes=classes, threshold=1, radices=[2]).ended(), ("done",))
        self.assertEqual(self.raises(Grown, run_of, dead + [("new", "y", "node"), ("new", "y", "node")], classes=classes, threshold=1, radices=[2]).spot[0] in (7, 8), True)
        young = [("new", "x", "node"), ("repeat", FAR, turn), ("new", "y", "node"), ("store", "y", "own", "y")]
        self.assertEqual(run_of(young + [("clear", "y"), ("collect", 0)], classes=classes, threshold=12).ended(), ("done",))


class GrowingErrors(Base):
    def test_slots_and_periods(self):
        growing = Growing(run_of([("new", "x", "node"), ("repeat", FAR, HEAD + HEAD)], threshold=1), (1,))
        many = growing.count()
        self.assertEqual(many, 2)
        for call in (growing.number_at, growing.address_at):
            for value in all_but(lambda value: type(value) is int and 0 <= value < many):
                self.assertIs(self.raises(InvalidNumber, call, value, value).number, value)
            for value in all_but(lambda value: type(value) is int and value >= 0):
                self.assertIs(self.raises(InvalidNumber, call, 1, value).number, value)
            self.assertEqual(self.raises(InvalidNumber, call, 2, -1).number, 2)
        for value in all_but(lambda value: type(value) is int and 0 <= value < many):
            self.assertIs(self.raises(InvalidNumber, growing.rule, value).number, value)
        for value in all_but(lambda value: type(value) is int and 1 <= value <= 8):
            self.assertIs(self.raises(InvalidNumber, growing.shift, value).number, value)
        self.assertEqual(growing.number_at(0, HUGE) - growing.number_at(0, HUGE - 1), 2)

    def test_what_is_returned_is_new(self):
        growing = Growing(run_of([("new", "x", "node"), ("repeat", FAR, HEAD)]), (1,))
        growing.leaked().append(3)
        growing.fates().append(3)
        self.assertEqual([growing.leaked(), growing.fates()], [[("node", "node")], [("stays",), ("left", 1, 0)]])

    def test_periods_that_the_run_does_not_reach(self):
        far = Growing(run_of([("new", "x", "node"), ("repeat", FAR, HEAD)]), (1,))
        few = Growing(run_of([("new", "x", "node"), ("repeat", 4, HEAD)]), (1,))
        for one in (far, few):
            self.assertEqual([one.number_at(0, 10 ** 40), one.address_at(0, 10 ** 40)], [10 ** 40 + 2, (1, 10 ** 40 + 2)])

    def test_log_has_depth_0(self):
        log = Growing(run_of([("repeat", FAR, HEAD + [("emit", "x"), ("repeat", 10 ** 20, [("emit", "y")])])]), (0,)).log()
        self.assertEqual(log.length(), 10 ** 20 + 1)
        for _ in range(6):
            log = log * 2
        self.assertEqual(log.length(), 64 * (10 ** 20 + 1))


class LongRules(Base):
    def test_numbers_and_addresses_that_settle_late(self):
        # A queue of four moves on in each round; what it loses hangs on a list for ever.
        classes = [("node", 1, ["next", "side"], False)]
        ahead = [("new", "x", "node"), ("copy", "y", "x")]
        push = [("new", "z", "node"), ("store", "y", "side", "z"), ("copy", "y", "z"), ("clear", "z")]
        turn = push + [("load", "z", "x", "side"), ("store", "x", "next", "u"), ("copy", "u", "x"), ("copy", "x", "z"), ("clear", "z")]
        run = run_of(ahead + push * 3 + [("repeat", FAR, turn)], classes=classes)
        spot = (len(ahead) + 12,)
        near = run_of(ahead + push * 3 + [("ifnil", "z", [("repeat", 40, turn)], [])], classes=classes)
        growing = Growing(run, spot)
        kept = near.view(near.last_spot())
        first, period = growing.rhythm()
        left = []
        for count in range(8):
            for slot in range(growing.count()):
                number = growing.number_at(slot, count)
                left.append(number)
                self.assertEqual(growing.address_at(slot, count), kept.address(number))
        self.assertEqual(len(set(left)), len(left))
        self.assertTrue(period >= 1 and first >= 1)


if __name__ == "__main__":
    unittest.main()
