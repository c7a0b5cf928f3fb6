"""Sweeps, and what waits for them: [65] to [70]."""

import random
import unittest

from kinds import all_but, is_plain_integer
from living import Living
from plain import Touched
from programs_by_chance import growing_program, holding_program, ring_program, some_program
from roundheap.errors import Grown, InvalidName, InvalidNumber, InvalidSpot, LimitExceeded, NotReached
from roundheap.lives import made_as
from roundheap.programs import Program
from roundheap.runs import Run
from roundheap.sweeps import Sweep, Waiting, sweep, sweep_of, sweeps, swept

FAR = 10 ** 30
NODE = ("node", 1, ["next"], False)
PAIR = ("pair", 2, ["next"], True)
RING = [("new", "x", "node"), ("store", "x", "next", "x"), ("clear", "x")]
PUSH = [("new", "y", "node"), ("store", "y", "next", "x"), ("copy", "x", "y")]


def run_of(body, classes=(NODE, PAIR), variables=("x", "y", "z"), weak=("w",), threshold=1, radices=(), functions=()):
    return Run(Program(list(classes), body, variables=list(variables), weak=list(weak), threshold=threshold,
                       radices=list(radices), functions=list(functions)))


def told_by(one):
    return {"where": one.where(), "which": one.which(), "level": one.level(), "looked": one.looked(), "lost": one.lost(),
            "fallen": one.fallen(), "freed": one.freed(), "entries": one.entries(), "aged": one.aged()}


KINDS = (growing_program, some_program, ring_program, holding_program)


class Base(unittest.TestCase):
    def raises(self, error, call, *arguments, **more):
        with self.assertRaises(error) as caught:
            call(*arguments, **more)
        self.assertIs(type(caught.exception), error)
        return caught.exception


class ByChance(Base):
    def test_near(self):
        fallen = aged = forced = 0
        for seed in range(150):
            rng = random.Random(seed)
            program = KINDS[seed % 3](rng, rng.choice([9, 15, 25]))
            try:
                plain, run = Living(program).play(), Run(program)
            except (Touched, Grown, LimitExceeded):
                continue
            for one in rng.sample(plain.sweeps, min(25, len(plain.sweeps))):
                told = Sweep(run, one["where"])
                self.assertEqual(told_by(told), one)
                fallen += len(one["fallen"])
                aged += any(old != new for _, old, new in one["aged"])
                forced += one["which"] is None
                if one["which"] is not None:
                    self.assertEqual(sweep(run, one["which"]), told)
            self.check_numbers(rng, run, plain, [one for one in plain.sweeps if one["which"] is not None])
        self.assertGreater(min(fallen * 4, aged, forced), 20, (fallen, aged, forced))

    def check_numbers(self, rng, run, plain, numbered):
        self.assertEqual([one["which"] for one in numbered], list(range(1, sweeps(run) + 1)))
        for only in [None] + list(plain.classes):
            freed = [(one["which"], number) for one in numbered for number in one["freed"]
                     if only in (None, plain.births[number][1])]
            for index, (which, _) in enumerate(freed):
                self.assertEqual(sweep_of(run, index, only=only), which)
            self.assertIsNone(sweep_of(run, len(freed), only=only))
            for _ in range(8):
                first = rng.randint(0, len(numbered))
                last = rng.randint(first, len(numbered))
                self.assertEqual(swept(run, first, last, only=only), sum(first < which <= last for which, _ in freed))

    def test_far(self):
        """Far sweeps, their sums and their indexes bear one another out, and so do views."""
        seen = 0
        for seed in range(90):
            rng = random.Random(seed)
            program = KINDS[seed % 3](rng, FAR - rng.randint(0, 30))
            try:
                run = Run(program)
            except (Grown, LimitExceeded):
                continue
            many = sweeps(run)
            self.assertEqual(many, run.view(run.last_spot()).collections())
            numbers = [number for number in list(range(9)) + [many - k for k in range(5)] + [rng.randint(0, many) for _ in range(6)] if 0 < number <= many]
            for number in numbers:
                one = sweep(run, number)
                self.assertEqual([one.which(), Sweep(run, one.where())], [number, one])
                self.check_views(run, one)
                self.assertEqual(swept(run, number - 1, number), len(one))
                begin = swept(run, 0, number - 1)
                for index in range(len(one)):
                    self.assertEqual(sweep_of(run, begin + index), number)
                    seen += 1
                sorts = [made_as(run, freed)[0] for freed in one.freed()]
                for name, _, _, _ in program.classes():
                    self.assertEqual(swept(run, number - 1, number, only=name), sorts.count(name))
        self.assertGreater(seen, 60)

    def check_views(self, run, one):
        spot = one.where()
        before, after = run.view(spot), run.view(spot[:-1] + (spot[-1] + 1,))
        for number in one.freed():
            self.assertNotIn(number, after.objects())
            self.assertIn(number, before.objects())
        for number, old, new in one.aged():
            self.assertEqual(after.row(number)[3], new)
            if number in before.objects():
                self.assertEqual(before.row(number)[3], old)
        looked = [number for number in after.objects() if number not in dict((n, 1) for n, _, _ in one.aged())]
        self.assertTrue(all(after.row(number)[3] > one.level() for number in looked))
        self.assertEqual(sorted(one.lost() + one.fallen()), sorted(one.freed()))


class Sweeps(Base):
    def test_levels_and_ages(self):
        run = run_of([("repeat", FAR, RING)], threshold=2, radices=[2, 3])
        self.assertEqual([sweep(run, n).level() for n in range(1, 13)], [0, 1, 0, 1, 0, 2, 0, 1, 0, 1, 0, 2])
        one = sweep(run, 2)
        self.assertEqual([one.where(), one.looked(), one.lost(), one.aged()], [(0, 3, 0), [1, 2, 3], [1, 2], [(3, 0, 2)]])
        far = sweep(run, 4 * 10 ** 29)
        self.assertEqual([far.where(), far.which(), far.level()], [(0, 8 * 10 ** 29 - 1, 0), 4 * 10 ** 29, 1])
        self.assertEqual(far.looked(), [8 * 10 ** 29 - 3, 8 * 10 ** 29 - 2, 8 * 10 ** 29 - 1])
        self.assertEqual(sweeps(run), 5 * 10 ** 29)

    def test_forced_sweeps(self):
        body = [("new", "y", "pair"), ("weak", "w", "y"), ("new", "x", "node"), ("store", "x", "next", "x"), ("new", "z", "pair"), ("store", "z", "next", "y"),
                ("new", "x", "pair"), ("store", "x", "next", "z"), ("store", "z", "next", "x"), ("clear", "x"), ("clear", "z"), ("collect", 0), ("collect", 1)]
        run = run_of(body, threshold=6, radices=[2])
        one = Sweep(run, (11,))
        self.assertEqual([one.where(), one.which(), one.level(), one.looked()], [(11,), None, 0, [0, 1, 2, 3]])
        self.assertEqual([one.lost(), one.fallen(), one.freed(), one.aged()], [[1, 2, 3], [], [1, 2, 3], [(0, 0, 1)]])
        self.assertEqual([one.entries(), len(one), bool(one), list(map(one.__getitem__, range(3)))], [[("final", "pair")] * 2, 3, True, [1, 2, 3]])
        other = Sweep(run, spot=(12,))
        self.assertEqual([other.looked(), other.freed(), other.aged(), bool(other), len(other), other.entries()], [[0], [], [(0, 1, 1)], False, 0, []])
        self.assertEqual([sweeps(run), swept(run, 0, 0), sweep_of(run, 0)], [0, 0, None])

    def test_fallen(self):
        body = [("new", "x", "node"), ("store", "x", "next", "x"), ("new", "y", "both"), ("store", "y", "next", "y"), ("new", "z", "pair"),
                ("store", "y", "other", "z"), ("clear", "z"), ("clear", "y"), ("collect", 0)]
        run = run_of([("new", "z", "node"), ("collect", 0)] + body[2:4] + [("store", "y", "other", "z")] + body[6:],
                     classes=(NODE, PAIR, ("both", 1, ["next", "other"], False)), threshold=6, radices=[2])
        one = Sweep(run, (7,))
        # The old object is in a generation above the level: it is not looked at, but let go.
        self.assertEqual([one.looked(), one.lost(), one.fallen(), one.freed(), one.aged()], [[1], [1], [0], [1, 0], []])
        self.assertEqual([0 in one, 1 in one, 2 in one, one[1]], [True, True, False, 0])

    def test_entries_of_the_statement_itself(self):
        # What the new lets go is freed ahead of the sweep.
        run = run_of([("new", "x", "pair"), ("new", "x", "pair")], threshold=2)
        one = sweep(run, 1)
        self.assertEqual([one.entries(), one.freed(), one.looked(), one.aged()], [[], [], [1], [(1, 0, 0)]])

    def test_retired_objects_are_left_out(self):
        run = run_of([("repeat", FAR, PUSH + RING[:2] + [("new", "z", "node"), ("store", "z", "next", "z"), ("copy", "x", "y"), ("clear", "z")])], threshold=3)
        self.assertEqual(run.rhythm((0,))[0], "grows")
        rounds = run.rhythm((0,))[3]
        for number in (rounds + 3, rounds + 4, 10 ** 29):
            one = sweep(run, number)
            self.assertEqual(len(one), 2)
            self.assertLess(len(one.looked()), 9)
            self.assertEqual([other for other, _, _ in one.aged()], [other for other in one.looked() if other not in one])
        self.assertGreater(len(sweep(run, rounds).looked()), rounds)
        self.assertEqual(swept(run, 10 ** 20, 10 ** 29), 2 * (10 ** 29 - 10 ** 20))

    def test_equality(self):
        run, same = [run_of([("repeat", 9, RING)], threshold=2) for _ in range(2)]
        other = run_of([("repeat", 9, RING[:2] + [("emit", "x"), ("clear", "x")])], threshold=2)
        self.assertTrue(sweep(run, 2) == sweep(same, 2) == sweep(other, 2))
        self.assertTrue(sweep(run, 2) != sweep(run, 3))
        self.assertFalse(any(sweep(run, 2) == value for value in all_but(lambda value: False)))
        classes = [("node", 1, ["next"], True)]
        final = run_of([("repeat", 9, RING)], classes=classes, threshold=2)
        self.assertFalse(sweep(run, 2) == sweep(final, 2))

    def test_items(self):
        run = run_of([("repeat", 9, RING)], threshold=2)
        one = sweep(run, 2)
        self.assertEqual([one.freed(), one[0], one[1], len(one), bool(sweep(run_of([("new", "x", "node")]), 1))], [[1, 2], 1, 2, 2, False])
        for value in all_but(lambda value: is_plain_integer(value) and value in (0, 1)):
            self.assertIs(self.raises(InvalidNumber, one.__getitem__, value).number, value)
        for value in all_but(lambda value: is_plain_integer(value) and value in (1, 2)):
            self.assertIs(value in one, False)
        self.assertTrue(1 in one and 2 in one and 3 not in one and True not in one)
        for call in (one.looked, one.lost, one.fallen, one.freed, one.entries, one.aged):
            call().append(9)
            self.assertNotIn(9, call())

    def test_spots_without_a_sweep(self):
        functions = [("f", [], ["a"], [("new", "a", "node")], None)]
        body = [("new", "x", "node"), ("new", "x", "node"), ("emit", "x"), ("repeat", 2, [("collect", 0)]), ("ifnil", "x", [("collect", 0)], []), ("call", None, "f", []),
                ("load", "x", "y", "next"), ("collect", 0)]
        run = run_of(body, threshold=2, functions=functions)
        for spot in ((0,), (2,), (3,), (3, 1, 1), (4,), (5,), (5, 0), (5, 1), (6,), (8,), (3, 2, 0), ()):
            error = NotReached if spot == (8,) else InvalidSpot
            self.assertEqual(self.raises(error, Sweep, run, spot).spot, spot)
        for spot in ((4, 0, 0), (7,)):
            self.assertEqual(self.raises(NotReached, Sweep, run, spot).spot, spot)
        self.assertEqual([Sweep(run, spot).level() for spot in ((1,), (3, 0, 0), (3, 1, 0))], [0, 0, 0])
        for spot in all_but(lambda value: isinstance(value, tuple) and value in ((1,),)):
            self.assertIs(self.raises(InvalidSpot, Sweep, run, spot).spot, spot)

    def test_numbers(self):
        run = run_of([("repeat", 9, RING)], threshold=2)
        for value in all_but(lambda value: is_plain_integer(value) and 1 <= value <= 4):
            self.assertIs(self.raises(InvalidNumber, sweep, run, value).number, value)
        for value in all_but(lambda value: is_plain_integer(value) and 0 <= value <= 4):
            self.assertIs(self.raises(InvalidNumber, swept, run, value, None, only=3).number, value)
            self.assertIs(self.raises(InvalidNumber, swept, run, 0, value, only=3).number, value)
        for value in all_but(lambda value: is_plain_integer(value) and value >= 0):
            self.assertIs(self.raises(InvalidNumber, sweep_of, run, value, only=3).number, value)
        for value in all_but(lambda value: value is None or isinstance(value, str) and value in ("node", "pair")):
            self.assertIs(self.raises(InvalidName, swept, run, 0, 1, only=value).name, value)
            self.assertIs(self.raises(InvalidName, sweep_of, run, 0, only=value).name, value)
        self.assertEqual([self.raises(InvalidNumber, swept, run, 3, 2).number, self.raises(InvalidNumber, swept, run, 3, 5).number], [2, 5])
        self.assertEqual([swept(run=run, first=1, last=3, only=None), swept(run, 1, 3, only="pair"), sweep_of(run=run, index=0, only="node")], [4, 0, 1])
        self.assertEqual([sweep_of(run, 10 ** 40), sweeps(run=run), sweep(run=run, number=4).which()], [None, 4, 4])


class Stopping(Living):
    """A plain memory with a copy of itself as it was at some spots."""

    def __init__(self, program, wanted):
        super().__init__(program)
        self.wanted, self.copies = wanted, {}

    def look(self, spot):
        super().look(spot)
        if spot in self.wanted:
            self.copies[spot] = self.lean_copy()


class Waits(Base):
    def trials(self, plain):
        """What is left by a collection of each level; None for one that touches a retired object."""
        found = []
        for level in range(plain.last + 1):
            trial = plain.lean_copy()
            trial.barred = list(trial.retired)
            try:
                trial.collect(level)
                found.append(list(trial.objects))
            except Touched:
                found.append(None)
        return found

    def plain_level(self, trials, number):
        """The least level of a collection that frees an object; "grown" if one touches a retired object first."""
        for level, left in enumerate(trials):
            if left is None:
                return "grown"
            if number not in left:
                return level
        self.fail(number)

    def is_walk(self, plain, number, level, walk):
        rows = plain.objects
        steps = all(other in rows[one]["fields"].values() for one, other in zip(walk, walk[1:]))
        return steps and walk[-1] == number and rows[walk[0]]["generation"] >= level and len(set(walk)) < len(walk)

    def test_by_chance(self):
        levels = []
        for seed in range(160):
            rng = random.Random(seed)
            program = KINDS[seed % 4](rng, 40 if seed % 4 == 3 else rng.choice([9, 15, 25]))
            try:
                spots = list(Living(program).play().seen)
                wanted = rng.sample(spots, min(10, len(spots))) + spots[-4:]
                plain, run = Stopping(program, wanted).play(), Run(program)
            except (Touched, Grown, LimitExceeded):
                continue
            for spot in plain.copies:
                levels += self.check(rng, Waiting(run, spot), plain.copies[spot], spot)
        self.assertGreater(min(levels.count(level) for level in (None, 0, 1)), 30)
        self.assertGreater(min(levels.count(level) for level in (2, "grown")), 20)

    def check(self, rng, waiting, plain, spot):
        live = plain.reach(plain.roots() + list(plain.retired))
        dead = sorted(set(plain.objects) - live)
        self.assertEqual([waiting.dead(), len(waiting), bool(waiting)], [dead, len(dead), dead != []])
        levels = []
        trials = self.trials(plain)
        for number in plain.objects:
            if number in plain.retired:
                for call in (waiting.level_for, waiting.walk):
                    self.assertEqual(self.raises(InvalidNumber, call, number).number, number)
                continue
            self.assertIs(number in waiting, number in dead)
            level = self.plain_level(trials, number) if number in dead else None
            levels.append(level)
            if level == "grown":
                for call in (waiting.level_for, waiting.walk):
                    self.assertEqual(self.raises(Grown, call, number).spot, spot)
                self.assertEqual(self.raises(Grown, waiting.is_walk, number, None).spot, spot)
                continue
            self.assertEqual(waiting.level_for(number), level)
            walk = waiting.walk(number)
            self.assertEqual(walk is not None, level not in (None, 0))
            if walk is not None:
                self.assertTrue(self.is_walk(plain, number, level, walk) and waiting.is_walk(number, walk))
                self.check_walks(rng, waiting, plain, number, level, walk)
            else:
                self.assertFalse(waiting.is_walk(number, [number, number]))
        return levels

    def check_walks(self, rng, waiting, plain, number, level, walk):
        """Other walks, and rows of numbers that are none."""
        numbers = [other for other in plain.objects if other not in plain.retired]
        for _ in range(20):
            other = [number]
            for _ in range(rng.randint(0, 5)):
                ahead = [one for one in numbers if other[0] in plain.objects[one]["fields"].values()]
                other.insert(0, rng.choice(ahead if ahead and rng.random() < 0.95 else numbers))
            self.assertIs(waiting.is_walk(number, other), self.is_walk(plain, number, level, other))
        for bad in (walk[:-1], walk + [-1], walk + [None], tuple(walk), [str(one) for one in walk], [[one] for one in walk], walk[:-1] + [walk[-1] + 0.0]):
            fine = isinstance(bad, list) and bad == walk[:-1] and bad != [] and self.is_walk(plain, number, level, bad)
            self.assertIs(waiting.is_walk(number, bad), fine)


class Dead(Base):
    def setUp(self):
        self.run = run_of([("repeat", FAR, RING)], threshold=2, radices=[2])
        self.waiting = Waiting(self.run, (0, 6, 0))

    def test_far(self):
        # The sixth object of each four is dead, and in the older generation.
        waiting = Waiting(run=self.run, spot=(0, 4 * 10 ** 29 + 2, 0))
        number = 4 * 10 ** 29 + 1
        self.assertEqual(waiting.dead(), [number - 2, number])
        self.assertEqual([waiting.level_for(number - 2), waiting.level_for(number)], [1, 1])
        self.assertEqual([waiting.walk(number - 2), waiting.walk(number)], [[number - 2] * 2, [number] * 2])
        self.assertEqual(Waiting(self.run, (0, 4 * 10 ** 29 + 1, 0)).level_for(number - 1), 0)
        self.assertTrue(waiting.is_walk(number=number - 2, walk=[number - 2] * 900))

    def test_values(self):
        self.assertEqual([self.waiting.dead(), len(self.waiting), bool(self.waiting)], [[3, 5], 2, True])
        self.assertFalse(bool(Waiting(self.run, (0, 0, 0))))
        for value in all_but(lambda value: is_plain_integer(value) and value in (3, 5)):
            self.assertIs(value in self.waiting, False)
            for call in (self.waiting.level_for, self.waiting.walk):
                self.assertIs(self.raises(InvalidNumber, call, value).number, value)
            self.assertIs(self.raises(InvalidNumber, self.waiting.is_walk, value, None).number, value)
            self.assertIs(self.waiting.is_walk(3, value), False)
            self.assertIs(self.waiting.is_walk(3, [3, value, 3]), False)
            self.assertIs(self.waiting.is_walk(3, [value]), False)
        self.assertEqual([self.waiting.is_walk(3, [3, 3]), self.waiting.is_walk(3, [3]), self.waiting.is_walk(5, [3, 5]), self.waiting.is_walk(3, [])], [True, False, False, False])
        self.waiting.dead().append(9)
        self.assertEqual(self.waiting.dead(), [3, 5])

    def test_live_objects(self):
        waiting = Waiting(self.run, (0, 6, 1))
        self.assertEqual([waiting.level_for(6), waiting.walk(6), waiting.is_walk(6, [6, 6]), waiting.dead()], [None, None, False, [3, 5]])

    def test_errors_of_the_spot(self):
        run = run_of([("new", "x", "node"), ("ifnil", "x", [("clear", "x")], [])])
        for spot in all_but(lambda value: isinstance(value, tuple) and value in ((0,), (1,), (2,), (0, 0), (1, 0, 0))):
            self.assertIs(self.raises(InvalidSpot, Waiting, run, spot).spot, spot)
        self.assertEqual(self.raises(NotReached, Waiting, run, (1, 0, 0)).spot, (1, 0, 0))

    def test_retired_objects(self):
        # A ring that refers to the list that has grown: its collection would touch a retired object.
        grow = ("repeat", FAR, PUSH + [("clear", "y")])
        both = ("both", 1, ["next", "other"], False)
        ring = [("new", "z", "both"), ("store", "z", "next", "z"), ("store", "z", "other", "x"), ("clear", "z")]
        run = run_of([grow] + ring, classes=(NODE, both), threshold=1, radices=[])
        self.assertEqual(run.rhythm((0,))[0], "grows")
        number = FAR
        waiting = Waiting(run, (5,))
        self.assertEqual([waiting.dead(), number in waiting], [[number], True])
        self.assertEqual(waiting.level_for(number), 0)
        body = [grow, ("load", "x", "x", "next")] + ring
        self.raises(Grown, run_of, body, classes=(NODE, both))
        # What a retired object refers to is not dead.
        run = run_of([("new", "z", "node"), ("repeat", FAR, [("new", "y", "both"), ("store", "y", "next", "x"), ("store", "y", "other", "z"), ("copy", "x", "y")]),
                      ("clear", "z")], classes=(NODE, both), threshold=1)
        self.assertEqual([run.rhythm((1,))[0], Waiting(run, (3,)).dead()], ["grows", []])
        self.assertEqual(Waiting(run, (3,)).level_for(0), None)


if __name__ == "__main__":
    unittest.main()
