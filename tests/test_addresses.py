"""Addresses of variables at the beginnings of rounds: [61] to [64]."""

import random
import unittest

from kinds import HUGE, all_but
from programs_by_chance import growing_program, some_program
from roundheap.addresses import Addresses
from roundheap.errors import (
    Grown, InvalidName, InvalidNumber, InvalidSpot, LimitExceeded, NotReached,
)
from roundheap.programs import Program
from roundheap.runs import Run

FAR = 10 ** 30
NODE = ("node", 1, ["next"], False)
TURN = [("new", "z", "node"), ("copy", "x", "y"), ("copy", "y", "z"), ("clear", "z")]


def run_of(body, classes=(NODE,), variables=("x", "y", "z", "u", "v"), weak=("w",), threshold=1, radices=(), functions=()):
    return Run(Program(list(classes), body, variables=list(variables), weak=list(weak), threshold=threshold,
                       radices=list(radices), functions=list(functions)))


def turning(rounds, more=()):
    return run_of([("new", "x", "node"), ("new", "y", "node"), ("repeat", rounds, TURN + list(more))])


def plainly_taken(run, spot, name, count):
    """The address of a variable at the beginning of a round, by the view; objects that were left are told too."""
    view = run.view(spot + (count, 0))
    number = view.variables()[name]
    return None if number is None or number == "retired" else view.address(number)


def plain_rows(run, spot, rounds, fits, count):
    """The rows of the rounds from one on that fit, among those that there are."""
    rhythm = run.rhythm(spot)
    begin = {"returns": rhythm[1], "grows": rhythm[1] + rhythm[2] if len(rhythm) > 2 else 0}.get(rhythm[0], rounds)
    rows = [(number, None) for number in range(count, min(begin, rounds)) if fits(number)]
    if begin < rounds:
        for rest in range(rhythm[2]):
            found = [number for number in range(begin + rest, rounds, rhythm[2]) if number >= count and fits(number)]
            if len(found) > 1:
                step = found[1] - found[0]
                assert found == list(range(found[0], found[-1] + 1, step))
                rows.append((found[0], step))
            elif found:
                rows.append((found[0], None))
    return sorted(rows, key=lambda row: row[0])


class Base(unittest.TestCase):
    def raises(self, error, call, *arguments):
        with self.assertRaises(error) as caught:
            call(*arguments)
        self.assertIs(type(caught.exception), error)
        return caught.exception


class ByChance(Base):
    def check(self, rng, run, spot, rounds):
        """Compare a repeat of few rounds with what its views tell."""
        told = Addresses(run, spot)
        names = list(run.view(spot).variables())
        homes = {}
        rhythm = run.rhythm(spot)
        last = rhythm[1] if rhythm[0] == "over" else rounds
        for name in names:
            homes[name] = [told.taken(name, count) for count in range(last)]
            for count in range(last):
                if rhythm[0] != "grows" or count < rhythm[1] + rhythm[2]:
                    self.assertEqual(homes[name][count], plainly_taken(run, spot, name, count))
                elif homes[name][count] is not None:
                    self.assertEqual(homes[name][count], plainly_taken(run, spot, name, count))
                elif count > rhythm[3]:
                    self.assertIsNone(plainly_taken(run, spot, name, count))
        for _ in range(8):
            if last == 0:
                break
            name, other, count = rng.choice(names), rng.choice(names), rng.randrange(last)
            one, two = homes[name][count], homes[other][count]
            alike = plain_rows(run, spot, last, lambda number: homes[other][number] == one, count)
            self.assertEqual(told.alike(name, other, count), [] if one is None else alike)
            both = plain_rows(run, spot, last, lambda number: (homes[name][number], homes[other][number]) == (two, one), count)
            self.assertEqual(told.exchanged(name, other, count), [] if one is None or two is None else both)
        return rhythm[0]

    def test_programs(self):
        kinds = []
        for seed in range(60):
            rng = random.Random(seed)
            rounds = rng.choice([5, 17, 40])
            program = (growing_program if seed % 3 == 0 else some_program)(rng, rounds)
            try:
                run = Run(program)
            except (Grown, LimitExceeded):
                continue
            for index, statement in enumerate(program.body()):
                if statement[0] == "repeat":
                    try:
                        run.view((index,))
                    except NotReached:
                        continue
                    kinds.append(self.check(rng, run, (index,), statement[1]))
        self.assertTrue({"over", "returns", "grows"} <= set(kinds))

    def test_repeats_within_rounds_far_away(self):
        for seed in range(12):
            rng = random.Random(seed)
            inner = [("new", "z", "node"), ("copy", "u", "v"), ("copy", "v", "x"), ("copy", "x", "y"), ("copy", "y", "z")]
            rng.shuffle(inner)
            body = [("new", "x", "node"), ("repeat", FAR, [("new", "y", "node"), ("repeat", 30, inner), ("emit", "x")])]
            run = run_of(body)
            for number in (0, 1, 7, 10 ** 29, FAR - 1):
                self.check(rng, run, (1, number, 1), 30)


class Taken(Base):
    def test_far_rounds(self):
        told = Addresses(turning(FAR), (2,))
        for count in (0, 1, 2, 10 ** 15, FAR - 1):
            self.assertEqual([told.taken("x", count), told.taken("y", count), told.taken("z", count)],
                             [(1, count % 3), (1, (count + 1) % 3), None])

    def test_the_document(self):
        told = Addresses(turning(FAR), (2,))
        self.assertEqual([told.alike("x", "y", 0), told.alike("x", "x", 4), told.exchanged("x", "y", 0)], [[(2, 3)], [(4, 3)], []])

    def test_rows_end_with_the_repeat(self):
        for rounds, rows in ((8, [(2, 3)]), (6, [(2, 3)]), (5, [(2, None)]), (2, [])):
            self.assertEqual(Addresses(turning(rounds), (2,)).alike("x", "y", 0), rows)
        self.assertEqual(Addresses(turning(FAR), (2,)).alike("x", "x", FAR - 3), [(FAR - 3, None)])
        self.assertEqual(Addresses(turning(FAR), (2,)).alike("x", "x", FAR - 4), [(FAR - 4, 3)])

    def test_growth(self):
        head = [("new", "y", "node"), ("store", "y", "next", "x"), ("copy", "x", "y"), ("clear", "y")]
        run = run_of([("new", "u", "node"), ("copy", "x", "u"), ("repeat", FAR, head)])
        told = Addresses(run, (2,))
        self.assertEqual([told.taken("x", count) for count in (0, 5, FAR - 1)], [(1, 0), (1, 5), (1, FAR - 1)])
        self.assertEqual([told.taken("u", 10 ** 29), told.taken("y", 10 ** 29), told.all_back()], [(1, 0), None, None])
        self.assertEqual([told.alike("x", "x", 7), told.alike("u", "u", 9), told.alike("u", "x", 0)], [[(7, None)], [(9, 1)], [(0, None)]])
        self.assertEqual(told.alike("u", "u", 0)[-1], (run.rhythm((2,))[1] + 1, 1))
        # Variables of left objects have no address from round B on.
        body = [("new", "x", "node"), ("repeat", FAR, [("ifnil", "u", [("new", "u", "node"), ("store", "u", "next", "x"), ("copy", "x", "u")], head)])]
        run = run_of(body)
        told = Addresses(run, (1,))
        begin = run.rhythm((1,))[1] + run.rhythm((1,))[2]
        self.assertEqual([told.taken("u", begin - 1), told.taken("u", begin), told.taken("u", begin + 1), told.taken("u", FAR - 1)], [(1, 1), None, None, None])
        self.assertEqual(told.alike("u", "u", 1), [(number, None) for number in range(1, begin)])
        self.assertEqual([told.alike("u", "x", begin), told.exchanged("u", "x", begin)], [[], []])

    def test_retired_objects(self):
        head = [("new", "y", "node"), ("store", "y", "next", "x"), ("copy", "x", "y"), ("clear", "y")]
        body = [("new", "x", "node"), ("repeat", FAR, [("ifnil", "u", [("new", "u", "node"), ("store", "u", "next", "x"), ("copy", "x", "u")], head)]),
                ("repeat", 9, [("new", "z", "node")])]
        told = Addresses(run_of(body), (2,))
        self.assertEqual([told.taken("u", 5), told.alike("u", "u", 0), told.taken("x", 8)], [None, [], (1, FAR)])
        # Within a round of the repeat that grows, far away and near.
        body[1] = ("repeat", FAR, body[1][2] + [("repeat", 5, [("new", "z", "node")])])
        run = run_of(body)
        told = Addresses(run, (1, 10 ** 28, 1))
        self.assertEqual([told.taken("u", 3), told.alike("u", "u", 0), told.exchanged("x", "u", 1)], [None, [], []])
        told = Addresses(run, (1, run.rhythm((1,))[3], 1))
        self.assertEqual([told.taken("u", 3), told.alike("u", "u", 3)], [plainly_taken(run, (1, run.rhythm((1,))[3], 1), "u", 3), [(3, 1)]])

    def test_exchanged(self):
        swap = [("copy", "z", "x"), ("copy", "x", "y"), ("copy", "y", "z"), ("clear", "z")]
        told = Addresses(run_of([("new", "x", "node"), ("new", "y", "node"), ("repeat", FAR, swap)]), (2,))
        self.assertEqual([told.exchanged("x", "y", 0), told.exchanged("x", "y", 5), told.exchanged("x", "x", 2)], [[(1, 2)], [(6, 2)], [(2, 2)]])
        self.assertEqual([told.all_back(), told.exchanged("x", "z", 0)], [2, []])

    def test_all_back(self):
        self.assertEqual(Addresses(turning(FAR), (2,)).all_back(), 3)
        self.assertIsNone(Addresses(turning(0), (2,)).all_back())
        self.assertEqual(Addresses(turning(1), (2,)).all_back(), 3)
        push = [("new", "z", "node"), ("store", "y", "next", "z"), ("copy", "y", "z"), ("clear", "z")]
        run = run_of([("new", "y", "node"), ("copy", "x", "y")] + push * 4 + [("repeat", FAR, push + [("load", "x", "x", "next")])], threshold=4)
        self.assertEqual(run.rhythm((18,)), ("returns", 0, 4, 4))
        # Six addresses go round; the period is four rounds.
        self.assertEqual(Addresses(run, (18,)).all_back(), 12)

    def test_variables_of_the_call_around_the_repeat(self):
        functions = [("f", ["a"], ["b"], [("repeat", 7, [("copy", "b", "a")])], None)]
        run = run_of([("new", "x", "node"), ("call", None, "f", ["x"])], functions=functions)
        told = Addresses(run, (1, 0))
        self.assertEqual([told.taken("a", 0), told.taken("b", 0), told.taken("b", 6)], [(1, 0), None, (1, 0)])
        self.assertEqual(told.alike("a", "b", 0), [(1, 1)])
        for name in ("x", "w"):
            self.raises(InvalidName, told.taken, name, 0)


class Errors(Base):
    def test_spots(self):
        run = turning(9)
        for value in all_but(lambda value: isinstance(value, tuple) and value in ((0,), (1,), (2,))):
            self.assertIs(self.raises(InvalidSpot, Addresses, run, value).spot, value)
        self.raises(InvalidSpot, Addresses, run, (2, 0, 0))
        self.raises(NotReached, Addresses, run_of([("load", "x", "y", "next"), ("repeat", 2, [])]), (1,))

    def test_names_then_numbers(self):
        told = Addresses(turning(9), (2,))
        for call in (told.alike, told.exchanged):
            for value in all_but(lambda value: value == "x" if isinstance(value, str) else False):
                self.assertIs(self.raises(InvalidName, call, value, value, value).name, value)
                self.assertIs(self.raises(InvalidName, call, "x", value, value).name, value)
            self.assertEqual(self.raises(InvalidName, call, "a", "b", 0).name, "a")
            for value in all_but(lambda value: type(value) is int and 0 <= value < 9):
                self.assertIs(self.raises(InvalidNumber, call, "x", "u", value).number, value)
        for value in all_but(lambda value: value == "x" if isinstance(value, str) else False):
            self.assertIs(self.raises(InvalidName, told.taken, value, -1).name, value)
        for value in all_but(lambda value: type(value) is int and 0 <= value < 9):
            self.assertIs(self.raises(InvalidNumber, told.taken, "u", value).number, value)
        for name in ("w", "node", "next"):
            self.raises(InvalidName, told.taken, name, 0)

    def test_rounds(self):
        told = Addresses(turning(FAR), (2,))
        for count in (-1, FAR, HUGE, True, 1.0):
            self.raises(InvalidNumber, told.taken, "x", count)
        self.assertEqual(self.raises(InvalidNumber, Addresses(turning(0), (2,)).taken, "x", 0).number, 0)

    def test_rounds_behind_a_failure(self):
        run = run_of([("new", "x", "node"), ("repeat", 9, [("ifnil", "y", [("new", "y", "node")], [("ifnil", "z", [("new", "z", "node")], [
            ("load", "u", "u", "next")])])])])
        told = Addresses(run, (1,))
        self.assertEqual([told.taken("y", count) for count in range(3)], [None, (1, 1), (1, 1)])
        self.raises(InvalidNumber, told.taken, "y", 3)
        self.assertEqual([told.alike("y", "y", 1), told.all_back()], [[(1, None), (2, None)], None])


if __name__ == "__main__":
    unittest.main()
