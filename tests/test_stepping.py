"""Stepping: [78] to [80]."""

import random
import unittest

from kinds import all_but, is_plain_integer
from living import Living
from plain import Touched
from programs_by_chance import growing_program, holding_program, ring_program, some_program
from roundheap.errors import Grown, InvalidNumber, InvalidSpot, LimitExceeded, NotReached
from roundheap.machine import Machine
from roundheap.programs import Program
from roundheap.runs import Run
from roundheap.stepping import frames, moved_on, step_at, walk

FAR = 10 ** 30
NODE = ("node", 1, ["next"], True)
PAIR = ("pair", 2, ["left", "right"], False)
PUSH = [("new", "y", "node"), ("store", "y", "next", "x"), ("copy", "x", "y")]
KINDS = (growing_program, some_program, ring_program, holding_program)


def run_of(body, classes=(NODE, PAIR), variables=("x", "y", "z"), weak=("w",), threshold=1, radices=(), functions=()):
    return Run(Program(list(classes), body, variables=list(variables), weak=list(weak), threshold=threshold, radices=list(radices),
                       functions=list(functions)))


class Stepped(Living):
    """A plain memory that remembers the open calls at each spot, and what each step does."""

    def __init__(self, program):
        super().__init__(program)
        self.open, self.deeds = {}, {}

    def look(self, spot):
        super().look(spot)
        def told(value):
            return "retired" if value in self.retired else value
        self.open[spot] = [(name, {word: told(value) for word, value in held.items()}) for name, held in self.calls]

    def simple(self, statement, spot):
        first, entries, sweeps, news = len(self.freed), len(self.log), len(self.sweeps), self.news
        homes = {number: row["address"] for number, row in self.objects.items()}
        super().simple(statement, spot)
        made = (news, self.objects[news]["address"]) if statement[0] == "new" else None
        freed = [(number, homes[number]) for number in self.freed[first:]]
        levels = [one["level"] for one in self.sweeps[sweeps:]]
        self.deeds[spot] = (statement, made, freed, self.log[entries:], levels[0] if levels else None)


class Base(unittest.TestCase):
    def raises(self, error, call, *arguments):
        with self.assertRaises(error) as caught:
            call(*arguments)
        self.assertIs(type(caught.exception), error)
        return caught.exception


class ByChance(Base):
    def test_near(self):
        freed = swept = deep = 0
        for seed in range(160):
            rng = random.Random(seed)
            program = KINDS[seed % 4](rng, rng.choice([9, 15, 25, 40]))
            try:
                plain, run = Stepped(program).play(), Run(program)
            except (Touched, Grown, LimitExceeded):
                continue
            spots = rng.sample(list(plain.seen), min(25, len(plain.seen)))
            for spot in spots:
                self.assertEqual(frames(run, spot), plain.open[spot])
                deep += len(plain.open[spot]) > 1
                self.check_walks(rng, run, plain, spot)
                if spot not in plain.deeds and plain.end != ("failed", spot):
                    self.assertEqual(self.raises(InvalidSpot, step_at, run, spot).spot, spot)
            for spot in rng.sample(list(plain.deeds), min(25, len(plain.deeds))):
                deed = step_at(run, spot)
                self.assertEqual(deed, plain.deeds[spot], spot)
                freed += len(deed[2]) > 1
                swept += deed[4] is not None
            if plain.end[0] == "failed":
                self.assertIsNone(step_at(run, plain.end[1]))
        self.assertGreater(min(freed, swept, deep), 20, (freed, swept, deep))

    def check_walks(self, rng, run, plain, spot):
        first = plain.seen[spot]["steps"]
        many = rng.choice([0, 1, 2, 5, 100])
        self.assertEqual(walk(run, spot, many), plain.order[first:first + many])
        for many in (0, 1, -1, rng.randint(-20, 20), -first, -first - 1, len(plain.order) - first, FAR, -FAR):
            number = first + many
            expected = plain.order[number] if 0 <= number < len(plain.order) else None
            self.assertEqual(moved_on(run, spot, many), expected)

    def test_far(self):
        """Far steps one behind the other lead from view to view."""
        seen = 0
        for seed in range(90):
            rng = random.Random(seed)
            program = KINDS[seed % 4](rng, FAR - rng.randint(0, 40))
            try:
                run = Run(program)
            except (Grown, LimitExceeded):
                continue
            last = run.last_spot()
            many = run.view(last).steps()
            for number in {0, many - 1, many // 2, rng.randint(0, max(0, many - 1)), rng.randint(0, max(0, many - 1))} - {-1}:
                if number < many:
                    seen += self.check_far(run, moved_on(run, (0,), number), number, many)
        self.assertGreater(seen, 1500)

    def check_far(self, run, spot, number, many):
        spots = walk(run, spot, 8)
        self.assertEqual([spots[0], len(spots)], [spot, min(8, many - number)])
        for index, one in enumerate(spots):
            before, after = run.view(one), run.view(one[:-1] + (one[-1] + 1,))
            self.assertEqual([before.steps(), after.steps()], [number + index, number + index + 1])
            self.assertEqual(moved_on(run, one, -number - index), spots[0] if number + index == 0 else moved_on(run, (0,), 0))
            statement, made, freed, entries, level = step_at(run, one)
            self.assertEqual(made is not None, statement[0] == "new")
            if made is not None:
                self.assertEqual([made[0], after.address(made[0])], [before.news(), made[1]])
            log = after.log()
            self.assertEqual(log.entries(before.log().length(), log.length()), entries)
            for other, address in freed:
                self.assertEqual(before.address(other), address)
                self.assertNotIn(other, after.objects())
            self.assertEqual(frames(run, one)[-1][1], before.variables())
            gone = [other for other in before.objects() if other not in after.objects()]
            # Else a boundary lies between at which objects are retired.
            if before.retired() == after.retired():
                self.assertEqual(sorted(other for other, _ in freed), gone)
        return len(spots)


class Stepping(Base):
    def test_frames(self):
        functions = [("f", ["a"], ["b"], [("new", "b", "node"), ("store", "b", "next", "a")], "b"), ("g", ["x"], [], [("call", "x", "f", ["x"])], "x")]
        run = run_of([("new", "z", "node"), ("repeat", FAR, [("call", "x", "g", ["z"]), ("call", None, "f", ["x"])])], functions=functions)
        spot = (1, 10 ** 29, 0, 0, 1)
        number = 2 * 10 ** 29 + 1
        told = frames(run, spot)
        self.assertEqual(told, [(None, {"x": number - 2, "y": None, "z": 0}), ("g", {"x": 0}), ("f", {"a": 0, "b": number})])
        self.assertEqual([frames(run=run, spot=(1,)), frames(run, (2,))], [[(None, {"x": None, "y": None, "z": 0})], [(None, {"x": 2 * FAR - 1, "y": None, "z": 0})]])
        told[0][1]["x"] = 9
        self.assertNotEqual(frames(run, spot), told)
        grown = run_of([("repeat", FAR, PUSH + [("ifnil", "z", [("copy", "z", "y")], [])])])
        self.assertEqual(frames(grown, (1,)), [(None, {"x": FAR - 1, "y": FAR - 1, "z": "retired"})])

    def test_steps(self):
        ring = [("new", "x", "node"), ("store", "x", "next", "x"), ("clear", "x"), ("collect", 0)]
        run = run_of([("new", "y", "pair"), ("repeat", FAR, ring)], threshold=3, radices=[2])
        self.assertEqual(step_at(run, (0,)), (("new", "y", "pair"), (0, (2, 0)), [], [], None))
        # The object was freed by the forced collection, the numbered one frees nothing.
        self.assertEqual(step_at(run, (1, 1, 0)), (("new", "x", "node"), (2, (1, 0)), [], [], 0))
        self.assertEqual(step_at(run=run, spot=(1, 4, 0))[4], 1)
        # The object of this round is in the generation above already, that of the next one is not.
        self.assertEqual(step_at(run, (1, 10 ** 29, 3)), (("collect", 0), None, [], [], 0))
        number = 10 ** 29 + 2
        address = run.view((1, 10 ** 29 + 1, 3)).address(number)
        self.assertEqual(step_at(run, (1, 10 ** 29 + 1, 3)), (("collect", 0), None, [(number, address)], [("final", "node")], 0))
        self.assertEqual(step_at(run, (1, 10 ** 29, 1)), (("store", "x", "next", "x"), None, [], [], None))
        self.assertEqual(step_at(run_of([("emit", "x")]), (0,)), (("emit", "x"), None, [], [("emit", None)], None))

    def test_the_order_of_freed_objects(self):
        # The addresses of the fields' objects go to the pool first; entries are written as freeing begins.
        body = [("new", "x", "node"), ("new", "y", "node"), ("store", "y", "next", "x"), ("tag", "x", "t"), ("clear", "x"), ("new", "z", "pair"), ("store", "z", "left", "y"),
                ("clear", "y"), ("new", "x", "node"), ("store", "z", "right", "x"), ("clear", "x"), ("clear", "z")]
        run = run_of(body, threshold=12)
        self.assertEqual(step_at(run, (11,)), (("clear", "z"), None, [(0, (1, 0)), (1, (1, 1)), (3, (1, 2)), (2, (2, 0))], [("final", "node"), ("final", "t"), ("final", "node")], None))

    def test_failures(self):
        run = run_of([("new", "x", "node"), ("repeat", 5, [("load", "x", "x", "next")])])
        self.assertEqual([run.ended(), step_at(run, (1, 1, 0)), step_at(run, (1, 0, 0))[2]], [("failed", (1, 1, 0)), None, [(0, (1, 0))]])
        self.assertEqual([walk(run, (0,), 9), walk(run, (1, 1, 0), 9), moved_on(run, (1, 1, 0), 0), moved_on(run, (1, 1, 0), -1)], [[(0,), (1, 0, 0)], [], None, (1, 0, 0)])
        self.assertEqual(self.raises(NotReached, step_at, run, (1, 2, 0)).spot, (1, 2, 0))

    def test_moves(self):
        run = run_of([("repeat", FAR, [("ifnil", "x", [("emit", "x")], []), ("repeat", 10 ** 20, [("emit", "y"), ("repeat", FAR, [])])]), ("repeat", FAR, []), ("emit", "z")])
        spot = (0, 5, 1, 7, 1)
        self.assertEqual([moved_on(run, spot, 0), moved_on(run, spot, -1), moved_on(run=run, spot=spot, many=1)], [(0, 5, 1, 8, 0), (0, 5, 1, 7, 0), (0, 5, 1, 9, 0)])
        self.assertEqual([moved_on(run, spot, -8), moved_on(run, spot, -9), moved_on(run, spot, -10), moved_on(run, spot, 10 ** 20 - 8)],
                         [(0, 5, 1, 0, 0), (0, 5, 0, 0, 0), (0, 4, 1, 10 ** 20 - 1, 0), (0, 6, 0, 0, 0)])
        many = FAR * (10 ** 20 + 1)
        self.assertEqual([moved_on(run, (0,), many), moved_on(run, (0,), many + 1), moved_on(run, (0,), many - 1), moved_on(run, (0,), -1)], [(2,), None, (0, FAR - 1, 1, 10 ** 20 - 1, 0), None])
        self.assertEqual([moved_on(run, (3,), 0), moved_on(run, (3,), -1), moved_on(run, (3,), -2), moved_on(run, (1,), -1), moved_on(run, (1, 10 ** 29, 0), 0)],
                         [None, (2,), (0, FAR - 1, 1, 10 ** 20 - 1, 0), (0, FAR - 1, 1, 10 ** 20 - 1, 0), (2,)])
        self.assertEqual(walk(run=run, spot=(0, 2, 1, 10 ** 20 - 2, 0), many=4), [(0, 2, 1, 10 ** 20 - 2, 0), (0, 2, 1, 10 ** 20 - 1, 0), (0, 3, 0, 0, 0), (0, 3, 1, 0, 0)])
        self.assertEqual([walk(run, (2,), 100), walk(run, (3,), 3), walk(run, (2,), 0), len(walk(run, (0,), 100))], [[(2,)], [], [], 100])

    def test_as_a_machine(self):
        for seed in range(30):
            program = some_program(random.Random(seed), 9)
            try:
                run = Run(program)
            except (Grown, LimitExceeded):
                continue
            machine, spots = Machine(program), []
            while machine.ended() is None:
                spots.append(machine.step())
            spots = spots[:-1] if machine.ended()[0] == "failed" else spots
            self.assertEqual([moved_on(run, (0,), number) for number in range(len(spots) + 1)], spots + [None])

    def test_errors(self):
        run = run_of([("new", "x", "node"), ("ifnil", "x", [("clear", "x")], [("emit", "x")]), ("repeat", 2, [("emit", "x")])])
        fits = lambda value: isinstance(value, tuple) and value in ((0,), (1,), (2,), (3,))
        for spot in all_but(fits):
            if spot not in ((1, 0, 0), (0, 0)):
                for call, more in ((frames, ()), (step_at, ()), (walk, (None,)), (moved_on, (None,))):
                    self.assertIs(self.raises(InvalidSpot, call, run, spot, *more).spot, spot)
        for call, more in ((frames, ()), (step_at, ()), (walk, (None,)), (moved_on, (None,))):
            self.assertEqual(self.raises(NotReached, call, run, (1, 0, 0), *more).spot, (1, 0, 0))
        for spot in ((1,), (2,), (3,), (1, 1, 1), (2, 1, 1)):
            self.assertEqual(self.raises(InvalidSpot, step_at, run, spot).spot, spot)
        for many in all_but(is_plain_integer):
            self.assertIs(self.raises(InvalidNumber, walk, run, (0,), many).number, many)
            self.assertIs(self.raises(InvalidNumber, moved_on, run, (0,), many).number, many)
        for many in (-1, 101, 10 ** 40):
            self.assertEqual(self.raises(InvalidNumber, walk, run, (0,), many).number, many)


if __name__ == "__main__":
    unittest.main()
