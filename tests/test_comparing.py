"""What differs between spots, runs and blocks: [95] to [99]."""

import random
import unittest

from compared import same_views, told_by
from kinds import all_but
from plain import Plain, Touched
from programs_by_chance import growing_program, some_program
from roundheap.comparing import (
    between, block_differences, block_end, freed_between, log_difference, made_between,
)
from roundheap.errors import (
    Grown, InvalidArgument, InvalidProgram, InvalidSpot, LimitExceeded, NotReached,
)
from roundheap.programs import Program
from roundheap.runs import Run
from roundheap.words import Word

FAR = 10 ** 30
NODE = ("node", 1, ["next"], False)
PAIR = ("pair", 2, ["next"], True)
HEAD = [("new", "y", "node"), ("store", "y", "next", "x"), ("copy", "x", "y"), ("clear", "y")]


def run_of(body, classes=(NODE, PAIR), variables=("x", "y", "z", "u"), weak=("w",), threshold=1, radices=(), functions=()):
    return Run(Program(list(classes), body, variables=list(variables), weak=list(weak), threshold=threshold,
                       radices=list(radices), functions=list(functions)))


class Base(unittest.TestCase):
    def raises(self, error, call, *arguments):
        with self.assertRaises(error) as caught:
            call(*arguments)
        self.assertIs(type(caught.exception), error)
        return caught.exception


def plain_between(plain, first, last):
    one, other = plain.seen[first]["rows"], plain.seen[last]["rows"]
    return ([n for n in one if n in other], [n for n in one if n not in other], [n for n in other if n not in one])


class Between(Base):
    def test_by_chance(self):
        grown = 0
        for seed in range(70):
            rng = random.Random(seed)
            program = growing_program(rng, 15) if seed % 2 else some_program(rng, 15)
            try:
                plain = Plain(program).play()
                run = Run(program)
            except (Grown, Touched, LimitExceeded):
                continue
            spots = list(plain.seen)
            for _ in range(12):
                first, last = rng.choice(spots), rng.choice(spots)
                one, other = plain.seen[first], plain.seen[last]
                grown += other["retired"][0] > one["retired"][0]
                if other["steps"] < one["steps"]:
                    for call in (between, made_between, freed_between):
                        self.assertEqual(self.raises(InvalidArgument, call, run, first, last).part, "last")
                    continue
                self.assertEqual(between(run, first, last), plain_between(plain, first, last))
                made, freed = made_between(run, first, last), freed_between(run, first, last)
                for name in plain.classes:
                    self.assertEqual(made[name], other["made"][name] - one["made"][name])
                    counts = [[row[0] for row in seen["rows"].values()].count(name) for seen in (one, other)]
                    self.assertEqual(freed[name], max(0, counts[0] + made[name] - counts[1]))
                self.assertEqual([list(made), list(freed)], [list(plain.classes)] * 2)
        self.assertGreater(grown, 8)

    def test_far_away(self):
        turn = [("new", "z", "node"), ("copy", "x", "y"), ("copy", "y", "z"), ("clear", "z"), ("new", "u", "pair")]
        run = run_of([("repeat", FAR, turn)])
        self.assertEqual(between(run, (0, 10 ** 20, 0), (0, 10 ** 20 + 1, 1)), ([2 * 10 ** 20 - 2], [2 * 10 ** 20 - 4, 2 * 10 ** 20 - 1],
                         [2 * 10 ** 20, 2 * 10 ** 20 + 1, 2 * 10 ** 20 + 2]))
        self.assertEqual(made_between(run, (0,), (1,)), {"node": FAR, "pair": FAR})
        self.assertEqual(freed_between(run, (0,), (1,)), {"node": FAR - 2, "pair": FAR - 1})
        self.assertEqual([between(run, (1,), (1,))[1:], made_between(run, (1,), (1,))], [([], []), {"node": 0, "pair": 0}])

    def test_retired_objects(self):
        run = run_of([("new", "x", "node"), ("repeat", FAR, HEAD)])
        rounds = run.rhythm((1,))[3]
        first, last = (1, rounds, 0), (1, 10 ** 29, 0)
        # The objects of the near round are retired in the far one: they are at the first spot alone.
        self.assertEqual(between(run, first, last), ([0], list(range(1, rounds + 1)), [10 ** 29]))
        self.assertEqual([made_between(run, first, last)["node"], freed_between(run, first, last)["node"]], [10 ** 29 - rounds, 10 ** 29 - 1])
        self.assertEqual(between(run, (1, 10 ** 28, 0), (2,)), ([0], [10 ** 28], [FAR]))
        # Behind the last known round they are retired without a statement: there are more again when one goes back.
        ends = (1, rounds + 1, 0), (1, rounds, 4)
        sunk = list(range(1, rounds + 1))
        self.assertEqual([between(run, *ends), freed_between(run, *ends)["node"], between(run, *ends[::-1])],
                         [([0, rounds + 1], [], sunk), 0, ([0, rounds + 1], sunk, [])])

    def test_fewer_statements(self):
        functions = [("f", [], ["a"], [("new", "a", "node")], "a")]
        run = run_of([("call", "x", "f", []), ("call", "x", "f", [])], functions=functions)
        for call in (between, made_between, freed_between):
            self.assertEqual(self.raises(InvalidArgument, call, run, (2,), (1, 0)).part, "last")
        # As many statements, though the spot stands ahead.
        self.assertEqual([between(run, (2,), (1, 1)), freed_between(run, (2,), (1, 1))], [([1], [], [0]), {"node": 0, "pair": 0}])
        self.assertEqual(between(run, (1, 1), (2,)), ([1], [0], []))

    def test_errors(self):
        run = run_of([("new", "x", "node"), ("ifnil", "x", [("clear", "x")], [("emit", "x")]), ("emit", "x")])
        fits = lambda value: isinstance(value, tuple) and value in ((0,), (1,), (2,), (3,))
        for call in (between, made_between, freed_between):
            for value in all_but(fits):
                self.assertIs(self.raises(InvalidSpot, call, run, value, None).spot, value)
                self.assertIs(self.raises(InvalidSpot, call, run, (2,), value).spot, value)
            self.raises(NotReached, call, run, (1, 0, 0), None)
            self.raises(NotReached, call, run, (3,), (1, 0, 0))
            self.raises(InvalidArgument, call, run, (3,), (0,))


class Logs(Base):
    def test_differences(self):
        one = run_of([("new", "x", "node"), ("repeat", FAR, [("emit", "x")])])
        self.assertIsNone(log_difference(one, one))
        self.assertIsNone(log_difference(one, run_of([("new", "x", "node"), ("repeat", 10 ** 15, [("repeat", 10 ** 15, [("emit", "x")])])])))
        self.assertEqual(log_difference(one, run_of([("new", "x", "node"), ("repeat", FAR - 1, [("emit", "x")])])),
                         (FAR - 1, ("emit", "node"), "end"))
        self.assertEqual(log_difference(run_of([]), one), (0, "end", ("emit", "node")))
        other = run_of([("new", "x", "node"), ("repeat", 10 ** 20, [("emit", "x")]), ("emit", "y")])
        self.assertEqual(log_difference(one, other), (10 ** 20, ("emit", "node"), ("emit", None)))
        self.assertEqual(log_difference(other, one), (10 ** 20, ("emit", None), ("emit", "node")))
        self.assertIsNone(log_difference(run_of([]), run_of([])))

    def test_logs_of_runs_that_fail(self):
        one = run_of([("emit", "x"), ("load", "x", "y", "next"), ("emit", "x")])
        self.assertEqual(log_difference(one, run_of([("emit", "x"), ("emit", "y")])), (1, "end", ("emit", None)))
        self.assertIsNone(log_difference(one, run_of([("emit", "z")])))


FUNCTIONS = [("f", ["a"], ["b"], [("new", "b", "node"), ("store", "b", "next", "a"), ("emit", "b")], "b"),
             ("g", ["a"], ["c"], [("call", "c", "f", ["a"]), ("load", "c", "c", "next")], "c")]


class Blocks(Base):
    def test_a_block_does_what_the_program_does(self):
        for seed in range(40):
            rng = random.Random(seed)
            program = some_program(rng, 9)
            try:
                run = Run(program)
            except (Grown, LimitExceeded):
                continue
            body = program.body()
            for index in range(len(body)):
                # Repeats of a block do not grow.
                if run.ended()[0] == "failed" and run.ended()[1][0] < index or any(row[0] == "repeat" for row in body[index:]):
                    continue
                end, view = block_end(run, (index,), body[index:])
                if run.ended() == ("done",):
                    self.assertEqual(end, ("done",))
                else:
                    self.assertEqual(end, ("failed", (run.last_spot()[0] - index,) + run.last_spot()[1:]))
                same_views(self, view, run.view(run.last_spot()))

    def test_the_run_stays_as_it_is(self):
        run = run_of([("new", "x", "node"), ("repeat", FAR, [("new", "y", "node"), ("clear", "y")])])
        before = [told_by(run.view(spot)) for spot in ((1,), (1, 10 ** 20, 1), (2,))]
        for spot in ((1,), (1, 10 ** 20, 1), (2,)):
            block_end(run, spot, [("clear", "x"), ("new", "z", "pair"), ("emit", "z")])
            block_differences(run, spot, [("clear", "x")], [("new", "x", "pair")])
        self.assertEqual([told_by(run.view(spot)) for spot in ((1,), (1, 10 ** 20, 1), (2,))], before)
        self.assertEqual([run.ended(), run.work()], [("done",), 3])

    def test_what_the_view_tells(self):
        run = run_of([("new", "x", "pair"), ("repeat", FAR, [("emit", "x")])])
        end, view = block_end(run, (1, 10 ** 20, 0), [("emit", "x"), ("clear", "x"), ("new", "y", "node"), ("repeat", 10 ** 25, [("emit", "y")])])
        self.assertEqual([end, view.steps(), view.news(), view.peak(), view.objects()], [("done",), 10 ** 20 + 1 + 3 + 10 ** 25, 2, (1, 2), [1]])
        self.assertEqual(view.log(), Word([("emit", "pair")]) * (10 ** 20 + 1) + Word([("final", "pair")]) + Word([("emit", "node")]) * 10 ** 25)
        end, view = block_end(run, (2,), [])
        same_views(self, view, run.view((2,)))

    def test_blocks_within_calls(self):
        run = run_of([("new", "x", "node"), ("repeat", FAR, [("call", "y", "g", ["x"])])], functions=FUNCTIONS)
        spot = (1, 10 ** 29, 0, 0, 1)
        end, view = block_end(run, spot, [("copy", "b", "a"), ("call", "b", "g", ["a"]), ("emit", "b")])
        self.assertEqual([end, set(view.variables()), view.value("b")], [("done",), {"a", "b"}, 0])
        self.assertEqual(self.raises(InvalidProgram, block_end, run, spot, [("clear", "a"), ("clear", "x")]).at, (1,))
        self.assertEqual(self.raises(InvalidProgram, block_end, run, (1, 5, 0), [("clear", "a")]).at, (0,))
        # All functions are known, also the one that is called and later ones.
        self.assertEqual(block_end(run, (1, 3, 0, 0, 0), [("call", "a", "f", ["a"]), ("call", "a", "g", ["a"])])[0], ("done",))

    def test_a_block_that_fails(self):
        run = run_of([("new", "x", "node")], functions=FUNCTIONS)
        end, view = block_end(run, (1,), [("repeat", 5, [("call", "x", "g", ["x"]), ("call", "y", "g", ["y"])])])
        self.assertEqual([end, view.variables()], [("done",), {"x": 0, "y": None, "z": None, "u": None}])
        end, view = block_end(run, (1,), [("ifnil", "y", [("new", "y", "pair"), ("load", "x", "z", "next"), ("clear", "x")], [])])
        self.assertEqual([end, view.value("y"), view.value("x"), view.steps()], [("failed", (0, 0, 1)), 1, 0, 2])
        functions = [("f", ["a"], [], [("emit", "a"), ("tag", "a", "t")], None)]
        run = run_of([("new", "x", "node")], functions=functions)
        end, view = block_end(run, (1,), [("repeat", 3, [("call", None, "f", ["x"]), ("clear", "x")])])
        self.assertEqual([end, view.variables()], [("failed", (0, 1, 0, 1)), {"a": None}])

    def test_errors_of_the_spot_first(self):
        run = run_of([("new", "x", "node"), ("load", "x", "y", "next"), ("emit", "x")])
        for value in all_but(lambda value: isinstance(value, tuple) and value in ((0,), (1,), (2,), (3,))):
            self.assertIs(self.raises(InvalidSpot, block_end, run, value, None).spot, value)
            self.assertIs(self.raises(InvalidSpot, block_differences, run, value, None, None).spot, value)
        self.raises(NotReached, block_end, run, (2,), None)
        self.raises(NotReached, block_differences, run, (2,), None, None)

    def test_blocks_that_are_not_valid(self):
        run = run_of([("new", "x", "node")], functions=FUNCTIONS, radices=[2])
        for value in all_but(lambda value: isinstance(value, list) and value == []):
            error = self.raises(InvalidProgram, block_end, run, (1,), value)
            self.assertEqual([error.part, error.at], ["block", (0,) if isinstance(value, list) else ()])
            error = self.raises(InvalidProgram, block_end, run, (1,), [("clear", "x"), value])
            self.assertEqual([error.part, error.at], ["block", (1,)])
            for one, other in ((value, None), ([], value)):
                self.assertEqual(self.raises(InvalidProgram, block_differences, run, (1,), one, other).part, "block")
        self.assertEqual(block_end(run, (1,), [("collect", 1)])[0], ("done",))
        deep = [("repeat", 1, [("repeat", 1, [("repeat", 1, [("repeat", 1, [])])])])]
        for block, at in (([("collect", 2)], (0,)), (deep, (0, 0, 0, 0)), ([("ifnil", "x", [], None)], (0, 1)), ([("repeat", 2, ())], (0,)),
                          ([("ifnil", "x", [], [("emit", "q")])], (0, 1, 0)), ([("call", "x", "h", [])], (0,))):
            self.assertEqual(self.raises(InvalidProgram, block_end, run, (1,), block).at, at)

    def test_the_limit_of_statements_does_not_apply(self):
        run = run_of([("new", "x", "node")])
        self.assertEqual(block_end(run, (1,), [("emit", "x")] * 5000)[1].log().length(), 5000)
        for many, fits in ((60, True), (61, False)):
            block = [("clear", "x")]
            for _ in range(many):
                block = [("ifnil", "y", block, [])]
            if fits:
                self.assertEqual(block_end(run, (1,), block)[1].value("x"), None)
                continue
            error = self.raises(InvalidProgram, block_end, run, (1,), block)
            self.assertEqual([error.part, error.at], ["block", -1])
            error = self.raises(InvalidProgram, block_end, run, (1,), block + [("clear", "q")])
            self.assertEqual(error.at, (1,))

    def test_limits_of_a_run(self):
        run = run_of([("new", "x", "node"), ("repeat", 500, [("emit", "x"), ("new", "y", "node")])])
        turn = [("emit", "x")] * 20000
        self.assertEqual(block_end(run, (2,), turn)[1].steps(), 21001)
        self.assertEqual(self.raises(LimitExceeded, block_end, run, (2,), turn + [("emit", "y")]).limit, 20000)
        self.assertEqual(self.raises(LimitExceeded, block_differences, run, (2,), turn + [("emit", "y")], [("clear", "q")]).limit, 20000)
        # Repeats of the block do not grow.
        links = [("new", "y", "node"), ("store", "y", "next", "x"), ("copy", "x", "y")]
        self.assertEqual(self.raises(LimitExceeded, block_end, run, (2,), [("repeat", FAR, links)]).limit, 200)
        self.assertEqual(block_end(run, (2,), [("clear", "y"), ("repeat", 199, links)])[1].count(), 200)

    def test_grown(self):
        run = run_of([("new", "x", "node"), ("repeat", FAR, HEAD)], functions=[("f", ["a"], ["b"], [("load", "b", "a", "next")], None)])
        for spot, count in (((2,), 0), ((1, 10 ** 29, 0), 0), ((1, 10 ** 29, 4), 1)):
            self.assertEqual(self.raises(Grown, block_end, run, spot, [("emit", "x"), ("repeat", 3, [("load", "x", "x", "next")])]).spot, (1, count, 0))
            if count == 1:
                continue
            self.assertEqual(self.raises(Grown, block_end, run, spot, [("repeat", 3, [("call", None, "f", ["x"])])]).spot, (0, 0, 0, 0))
            self.assertEqual(self.raises(Grown, block_end, run, spot, [("clear", "x")]).spot, (0,))
        self.assertEqual(block_end(run, (1, 3, 4), [("load", "x", "x", "next"), ("load", "x", "x", "next")])[0], ("done",))


class Differences(Base):
    def test_none(self):
        run = run_of([("new", "x", "node"), ("new", "y", "node"), ("store", "x", "next", "y")])
        for one, other in (([], []), ([("copy", "x", "x")], []), ([("clear", "z")], [("copy", "z", "u")]),
                           ([("emit", "x"), ("emit", "x")], [("repeat", 2, [("emit", "x")])]), ([("load", "z", "x", "next")], [("copy", "z", "y")]),
                           ([("ifnil", "x", [("clear", "y")], [])], [("ifsame", "x", "x", [], [("clear", "x")])])):
            self.assertEqual(block_differences(run, (3,), one, other), [])

    def test_each_word(self):
        run = run_of([("new", "x", "node"), ("new", "y", "pair"), ("weak", "w", "x")], threshold=12)
        cases = [
            ([("load", "z", "u", "next")], [], ["end"]),
            ([("load", "z", "u", "next")], [("emit", "x"), ("tag", "u", "t")], ["log"]),
            ([("tag", "x", "t")], [], ["state"]),
            ([("copy", "z", "x")], [], ["state"]),
            ([("weak", "w", "y")], [], ["state"]),
            ([("new", "x", "node")], [("clear", "x"), ("new", "x", "node")], ["addresses"]),
            ([("new", "z", "pair"), ("new", "z", "pair")], [("new", "z", "pair"), ("clear", "z"), ("new", "z", "pair")], ["addresses"]),
            ([("emit", "x")], [], ["log"]),
            ([("emit", "x")], [("emit", "y")], ["log"]),
            ([("clear", "x")], [], ["state", "addresses", "numbers"]),
            ([("new", "z", "node"), ("clear", "z")], [], ["state", "numbers"]),
            ([("clear", "y")], [("tag", "x", "t")], ["state", "addresses", "numbers", "log"]),
            ([("clear", "y"), ("load", "x", "u", "next")], [], ["end", "state", "addresses", "numbers", "log"]),
        ]
        for one, other, told in cases:
            self.assertEqual(block_differences(run, (3,), one, other), told, (one, other))
            self.assertEqual(block_differences(run, (3,), other, one), told, (other, one))

    def test_numbers_alone(self):
        # Twelve objects more are as none in the state, with this threshold.
        run = run_of([("new", "x", "node")], threshold=12)
        block = [("new", "z", "node"), ("clear", "z")] * 12
        self.assertEqual(block_differences(run, (1,), block, []), ["numbers"])
        run = run_of([("new", "x", "node")], threshold=3, radices=[2])
        self.assertEqual(block_differences(run, (1,), block[:6], block[:12])[:1], ["state"])

    def test_states_by_places_in_the_order(self):
        run = run_of([("new", "x", "node"), ("new", "y", "node")], threshold=1)
        self.assertEqual(block_differences(run, (2,), [("new", "x", "node"), ("new", "y", "node")], [("new", "x", "node"), ("new", "z", "node"), ("copy", "y", "z"), (
            "clear", "z")]), [])
        self.assertEqual(block_differences(run, (2,), [("new", "x", "node"), ("new", "y", "node")], [("new", "y", "node"), ("new", "x", "node")]), ["state", "addresses"])

    def test_far_away_and_in_calls(self):
        run = run_of([("new", "x", "node"), ("repeat", FAR, [("call", "y", "g", ["x"])])], functions=FUNCTIONS)
        for spot in ((1, 10 ** 29, 0, 0, 1), (1, FAR - 1, 0, 0, 3)):
            self.assertEqual(block_differences(run, spot, [("clear", "b"), ("new", "b", "node")], [("new", "b", "node")]), ["addresses"])
            self.assertEqual(block_differences(run, spot, [("repeat", 10 ** 30, [("emit", "a")])], [("repeat", 10 ** 15, [("repeat", 10 ** 15, [("emit", "a")])])]), [])

    def test_retired_objects_in_states(self):
        run = run_of([("new", "x", "node"), ("repeat", FAR, HEAD)])
        self.assertEqual(block_differences(run, (2,), [("copy", "y", "x"), ("clear", "x")], [("copy", "y", "x")]), ["state"])


if __name__ == "__main__":
    unittest.main()
