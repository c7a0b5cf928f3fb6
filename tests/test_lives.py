"""Where objects are made and freed, and who has an address: [58] to [60]."""

import random
import unittest

from kinds import all_but, is_plain_integer
from living import Living
from plain import Touched
from programs_by_chance import growing_program, some_program
from roundheap.errors import Grown, InvalidNumber, InvalidPlace, InvalidSpot, LimitExceeded, NotReached
from roundheap.lives import born, died, holder, made_as
from roundheap.programs import Program
from roundheap.runs import Run

FAR = 10 ** 30
NODE = ("node", 1, ["next"], False)
PAIR = ("pair", 2, ["next"], True)
HEAD = [("new", "y", "node"), ("store", "y", "next", "x"), ("copy", "x", "y"), ("clear", "y")]


def run_of(body, classes=(NODE, PAIR), variables=("x", "y", "z", "u"), weak=("w",), threshold=1, radices=(), functions=()):
    return Run(Program(list(classes), body, variables=list(variables), weak=list(weak), threshold=threshold,
                       radices=list(radices), functions=list(functions)))


def some_numbers(rng, news):
    """Numbers of objects, small ones, great ones and some between."""
    numbers = list(range(min(news, 12))) + [news - k for k in range(1, 9) if k <= news]
    return numbers + [rng.randrange(news) for _ in range(12 if news else 0)] + [rng.randrange(min(news, 200)) for _ in range(12 if news else 0)]


def behind(spot):
    """The spot behind a simple statement."""
    return spot[:-1] + (spot[-1] + 1,)


class ByChance(unittest.TestCase):
    def test_near(self):
        hows = []
        for seed in range(90):
            rng = random.Random(seed)
            program = (growing_program if seed % 2 else some_program)(rng, rng.choice([9, 15, 25]))
            try:
                plain, run = Living(program).play(), Run(program)
            except (Touched, Grown, LimitExceeded):
                continue
            for number in range(plain.news):
                told = (born(run, number),) + made_as(run, number)
                self.assertEqual(told, plain.births[number])
                end = died(run, number)
                self.assertEqual(end, plain.deaths.get(number), (seed, number))
                hows.append(None if end is None else end[1])
        self.assertGreater(min(hows.count(how) for how in ("collection", "count", None)), 150)

    def test_far(self):
        """Views ahead of the statements and behind them bear out what is told."""
        counts = {"collection": 0, "count": 0, None: 0, "retired": 0}
        for seed in range(70):
            rng = random.Random(seed)
            program = (growing_program if seed % 2 else some_program)(rng, FAR - rng.randint(0, 30))
            try:
                run = Run(program)
            except (Grown, LimitExceeded):
                continue
            last = run.view(run.last_spot())
            for number in some_numbers(rng, last.news()):
                spot = born(run, number)
                sort, address = made_as(run, number)
                view = run.view(behind(spot))
                self.assertEqual([run.view(spot).news(), view.news()], [number, number + 1])
                self.assertEqual([view.row(number)[0], view.address(number)], [sort, address])
                counts[self.check_end(run, number, sort, address, last)] += 1
        self.assertGreater(min(counts.values()), 60, counts)

    def check_end(self, run, number, sort, address, last):
        end = died(run, number)
        if end is None:
            if number in last.objects():
                self.assertEqual(last.address(number), address)
                return None
            self.assertEqual(holder(run, run.last_spot(), address), ("retired",))
            return "retired"
        spot, how = end
        view = run.view(spot)
        self.assertEqual([view.row(number)[0], view.address(number)], [sort, address])
        try:
            after = run.view(behind(spot))
        except InvalidSpot:
            # The spot is the end of a function's body.
            after = run.view(behind(spot[:-1]))
        self.assertNotIn(number, after.objects())
        return how


class Lives(unittest.TestCase):
    def raises(self, error, call, *arguments):
        with self.assertRaises(error) as caught:
            call(*arguments)
        self.assertIs(type(caught.exception), error)
        return caught.exception

    def test_the_end_of_a_call(self):
        functions = [("f", ["p"], ["q"], [("new", "q", "pair"), ("store", "q", "next", "p")], None),
                     ("g", [], [], [("call", None, "f", ["y"]), ("emit", "y")][:0], None)]
        run = run_of([("repeat", FAR, [("new", "x", "node"), ("call", None, "f", ["x"])])], functions=functions)
        self.assertEqual([born(run, 2 * 10 ** 29 + 1), died(run, 2 * 10 ** 29 + 1)], [(0, 10 ** 29, 1, 0), ((0, 10 ** 29, 1, 2), "count")])
        self.assertEqual([died(run, 2 * 10 ** 29), died(run, 2 * FAR - 1)], [((0, 10 ** 29 + 1, 0), "count"), ((0, FAR - 1, 1, 2), "count")])
        self.assertEqual([died(run, 2 * FAR - 2), made_as(run, 2 * FAR - 1)], [None, ("pair", (2, 0))])

    def test_a_result_lets_an_object_go(self):
        functions = [("f", [], ["q"], [], "q")]
        run = run_of([("new", "x", "node"), ("repeat", FAR, [("call", "x", "f", [])]), ("emit", "x")], functions=functions)
        self.assertEqual(died(run, 0), ((1, 0, 0, 0), "count"))
        # The object goes round three variables until a call in a far round lets it go; no statement is done on the way.
        functions = [("f", ["a"], [], [], "a"), ("g", [], ["a"], [], "a")]
        turn = [("call", "z", "f", ["y"]), ("call", "y", "f", ["x"]), ("call", "x", "f", ["z"]), ("call", "z", "g", [])]
        run = run_of([("new", "x", "node"), ("repeat", FAR, turn), ("call", "x", "g", []), ("repeat", 1, [("call", "y", "g", [])])], functions=functions)
        self.assertEqual(died(run, 0), ((2, 0), "count"))

    def test_collections(self):
        ring = [("new", "x", "node"), ("store", "x", "next", "x"), ("new", "y", "pair"), ("store", "x", "next", "x"), ("clear", "x")]
        run = run_of([("repeat", FAR, ring)], threshold=3, radices=[2])
        for number in (0, 2, 4, 6 * 10 ** 28, 6 * 10 ** 28 + 2):
            self.assertEqual(died(run, number)[1], "collection")
        self.assertEqual(died(run, 6 * 10 ** 28 + 1), ((0, 3 * 10 ** 28 + 1, 2), "count"))
        # What the objects of a circle let go is freed by count, also within the collection.
        body = [("new", "x", "node"), ("new", "y", "pair"), ("store", "x", "next", "x"), ("new", "z", "both"), ("store", "z", "next", "z"),
                ("store", "z", "other", "y"), ("clear", "y"), ("clear", "z"), ("collect", 0)]
        run = run_of(body, classes=(NODE, PAIR, ("both", 1, ["next", "other"], False)), threshold=12, radices=[])
        self.assertEqual([died(run, 2), died(run, 1), died(run, 0)], [((8,), "collection"), ((8,), "collection"), None])
        body[0:2] = [("new", "y", "pair"), ("collect", 0), ("new", "x", "node")]
        run = run_of(body, classes=(NODE, PAIR, ("both", 1, ["next", "other"], False)), threshold=12 // 2, radices=[2])
        self.assertEqual([died(run, 2), died(run, 0)], [((9,), "collection"), ((9,), "count")])

    def test_a_failing_statement_ahead(self):
        run = run_of([("new", "x", "node"), ("repeat", FAR, [("new", "y", "node"), ("load", "z", "x", "next"), ("load", "x", "z", "next")])])
        self.assertEqual([died(run, 0), died(run, 1), born(run, 1)], [None, None, (1, 0, 0)])
        for call in (born, died, made_as):
            self.assertEqual(self.raises(InvalidNumber, call, run, 2).number, 2)

    def test_objects_that_outlive_their_repeat(self):
        turn = [("new", "z", "node"), ("copy", "x", "y"), ("copy", "y", "z"), ("clear", "z")]
        run = run_of([("repeat", FAR, turn), ("new", "u", "pair"), ("repeat", FAR, turn[:2] + [("copy", "y", "z"), ("emit", "y")]), ("clear", "y")])
        self.assertEqual([died(run, FAR - 3), died(run, FAR - 2)], [((0, FAR - 1, 1), "count"), ((2, 0, 1), "count")])
        self.assertEqual([died(run, FAR - 1), died(run, FAR), born(run, FAR)], [((2, 1, 1), "count"), None, (1,)])
        self.assertEqual([died(run, 2 * FAR), born(run, 2 * FAR), died(run, 2 * FAR - 1)], [None, (2, FAR - 1, 0), None])

    def test_nested_repeats(self):
        inner = ("repeat", 10 ** 20, [("new", "x", "node"), ("copy", "y", "x")])
        run = run_of([("repeat", 10 ** 10, [inner, ("new", "z", "pair"), ("repeat", 10 ** 15, [("new", "u", "node")])])])
        many = 10 ** 20 + 1 + 10 ** 15
        number = 7 * 10 ** 9 * many + 12345678901234567890
        self.assertEqual([born(run, number), died(run, number)], [(0, 7 * 10 ** 9, 0, 12345678901234567890, 0),
                         ((0, 7 * 10 ** 9, 0, 12345678901234567891, 1), "count")])
        number = 7 * 10 ** 9 * many + 10 ** 20 - 1
        self.assertEqual(died(run, number), ((0, 7 * 10 ** 9 + 1, 0, 0, 1), "count"))
        self.assertEqual(died(run, number + 1), ((0, 7 * 10 ** 9 + 1, 1), "count"))
        self.assertEqual(died(run, number + 1 + 10 ** 15), ((0, 7 * 10 ** 9 + 1, 2, 0, 0), "count"))
        self.assertEqual([died(run, 10 ** 10 * many - 1), died(run, 10 ** 10 * many - 2)], [None, ((0, 10 ** 10 - 1, 2, 10 ** 15 - 1, 0), "count")])

    def test_retired_objects(self):
        run = run_of([("new", "x", "node"), ("repeat", FAR, HEAD + [("new", "z", "pair")]), ("emit", "z")])
        self.assertEqual(run.rhythm((1,))[0], "grows")
        for number in (0, 3, 2 * 10 ** 29 + 1, 2 * FAR - 1, 2 * FAR):
            self.assertIsNone(died(run, number))
        self.assertEqual([died(run, 2 * 10 ** 29), born(run, 2 * 10 ** 29 + 1)], [((1, 10 ** 29, 4), "count"), (1, 10 ** 29, 0)])
        self.assertEqual([made_as(run, 2 * 10 ** 29 + 1), made_as(run, 2 * 10 ** 29)], [("node", (1, 10 ** 29 + 1)), ("pair", (2, 1))])

    def test_numbers(self):
        run = run_of([("repeat", 3, [("new", "x", "node")])])
        for call in (born, died, made_as):
            for value in all_but(lambda value: is_plain_integer(value) and 0 <= value <= 2):
                self.assertIs(self.raises(InvalidNumber, call, run, value).number, value)
            self.assertEqual(call(run=run, number=1), call(run, 1))
            self.assertEqual(self.raises(InvalidNumber, call, run_of([]), 0).number, 0)


class Holders(unittest.TestCase):
    raises = Lives.raises

    def test_by_chance(self):
        """Views tell who has the addresses."""
        words = set()
        for seed in range(50):
            rng = random.Random(seed)
            program = (growing_program if seed % 2 else some_program)(rng, rng.choice([15, FAR]))
            try:
                run = Run(program)
            except (Grown, LimitExceeded):
                continue
            for spot in [run.last_spot()] + [(index,) for index in range(min(len(program.body()), run.last_spot()[0] + 1))]:
                view = run.view(spot)
                rows = {view.address(number): number for number in view.objects()}
                for size in (1, 2, 3):
                    free, fresh = view.pool(size)
                    for k in list(range(min(fresh, 40) + 2)) + [fresh, fresh + 10 ** 40] + [k for _, k in rows]:
                        told = holder(run, spot, (size, k))
                        words.add(told[0])
                        if (size, k) in rows:
                            self.assertEqual(told, ("object", rows[(size, k)]))
                        elif k in free:
                            self.assertEqual(told, ("pool", free.index(k)))
                        elif k >= fresh:
                            self.assertEqual(told, ("pool", len(free) + k - fresh))
                        else:
                            self.assertEqual(told, ("retired",))
        self.assertEqual(words, {"object", "pool", "retired"})

    def test_far(self):
        run = run_of([("repeat", FAR, HEAD)])
        spot = (0, 10 ** 29, 1)
        self.assertEqual([holder(run, spot, (1, 10 ** 29)), holder(run, spot, (1, 10 ** 29 - 1))], [("object", 10 ** 29), ("object", 10 ** 29 - 1)])
        self.assertEqual([holder(run, spot, (1, 10 ** 28)), holder(run, spot, (1, 10 ** 29 + 5)), holder(run, spot, (8, 3))], [("retired",), ("pool", 4), ("pool", 3)])
        self.assertEqual(holder(run=run, spot=(0, 0, 0), address=(1, 7)), ("pool", 7))

    def test_errors(self):
        run = run_of([("new", "x", "node"), ("ifnil", "x", [("clear", "x")], [("emit", "x")])])
        for spot in all_but(lambda value: isinstance(value, tuple) and value in ((0,), (1,), (2,))):
            if spot not in ((1, 0, 0), (0, 0)):
                self.assertIs(self.raises(InvalidSpot, holder, run, spot, None).spot, spot)
        self.assertEqual(self.raises(NotReached, holder, run, (1, 0, 0), (9, 9)).spot, (1, 0, 0))
        for address in all_but(lambda value: False) + [(1, -1), (1, True), (True, 1), (0, 0), (9, 0), (1, 2, 3), (1, 1.0), [1, 0], (1, None)]:
            self.assertIs(self.raises(InvalidPlace, holder, run, (1,), address).place, address)


if __name__ == "__main__":
    unittest.main()
