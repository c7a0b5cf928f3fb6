"""Steps that fulfil conditions: [55] to [57]."""

import random
import unittest

from kinds import all_but, is_plain_integer
from living import Living
from plain import Touched
from programs_by_chance import growing_program, holding_program, ring_program, some_program
from roundheap.errors import Grown, InvalidArgument, InvalidNumber, InvalidSpot, LimitExceeded, NotReached
from roundheap.probes import Probe, runs_out
from roundheap.programs import Program
from roundheap.runs import Run
from roundheap.stepping import walk

FAR = 10 ** 30
NODE = ("node", 1, ["next"], False)
PAIR = ("pair", 2, ["next"], True)
PUSH = [("new", "y", "node"), ("store", "y", "next", "x"), ("copy", "x", "y")]
KINDS = (growing_program, some_program, ring_program, holding_program)
WORDS = ("new", "copy", "clear", "load", "store", "wipe", "tag", "emit", "weak", "get", "collect")


def program_of(body, classes=(NODE, PAIR), variables=("x", "y", "z"), weak=("w",), threshold=1, radices=(), functions=()):
    return Program(list(classes), body, variables=list(variables), weak=list(weak), threshold=threshold, radices=list(radices),
                   functions=list(functions))


def run_of(body, **parts):
    return Run(program_of(body, **parts))


def place_of(program, spot):
    """("at", place) or ("within", function, place) of the statement at a spot."""
    texts = {row[0]: row[3] for row in program.functions()}
    block, way, place, rest = program.body(), ("at",), (), list(spot)
    while len(rest) > 1:
        statement = block[rest[0]]
        place += (rest.pop(0),)
        if statement[0] == "repeat":
            block = statement[2]
            rest.pop(0)
        elif statement[0] == "call":
            block, way, place = texts[statement[2]], ("within", statement[2]), ()
        else:
            block = statement[rest[0] - 2]
            place += (rest.pop(0),)
    return way + (place + (rest[0],),), block[rest[0]]


class Seen(Living):
    """A plain memory that remembers what there is behind each step."""

    def done(self, statement, spot):
        held = {**self.weak, **self.calls[0][1]}
        rows = {name: None if value is None or value in self.barred else (self.objects[value]["class"], self.objects[value]["tag"])
                for name, value in held.items()}
        held = {name: "retired" if value in self.barred else value for name, value in held.items()}
        return {"spot": spot, "word": statement[0], "held": held, "rows": rows, "objects": len(self.objects), "units": self.units(),
                "place": place_of(self.program, spot)[0]}


def fulfils(step, condition):
    word = condition[0]
    if word in ("objects", "units"):
        return step[word] >= condition[1]
    if word == "word":
        return step["word"] == condition[1]
    if word in ("at", "within"):
        return step["place"] == condition
    value = step["held"][condition[1]]
    if word in ("nil", "some"):
        return (value is None) == (word == "nil")
    if word in ("same", "unlike"):
        other = step["held"][condition[2]]
        if value == "retired" and other == "retired":
            return False
        return (value == other) == (word == "same")
    row = step["rows"][condition[1]]
    return row is not None and row[word == "tag"] == condition[2]


def some_condition(rng, program, places):
    names = program.variables() + program.weak()
    v, u = rng.choice(names), rng.choice(names)
    classes = [row[0] for row in program.classes()]
    tags = classes + ["t", "u", "other"]
    ways = [("nil", v), ("some", v), ("same", v, u), ("unlike", v, u), ("class", v, rng.choice(classes)), ("tag", v, rng.choice(tags)),
            ("objects", rng.randint(0, 9)), ("units", rng.randint(0, 12)), ("word", rng.choice(WORDS)), ("objects", rng.randint(0, 40))]
    return rng.choice(ways + [rng.choice(places)] * 2 if places else ways)


class Base(unittest.TestCase):
    def raises(self, error, call, *arguments):
        with self.assertRaises(error) as caught:
            call(*arguments)
        self.assertIs(type(caught.exception), error)
        return caught.exception


class ByChance(Base):
    def test_near(self):
        found = retired = 0
        for seed in range(140):
            rng = random.Random(seed)
            program = KINDS[seed % 4](rng, rng.choice([9, 15, 25, 40]))
            try:
                plain, run = Seen(program).play(), Run(program)
            except (Touched, Grown, LimitExceeded):
                continue
            retired += any("retired" in step["held"].values() for step in plain.order)
            places = sorted({step["place"] for step in plain.order}, key=repr)
            for _ in range(6):
                conditions = [some_condition(rng, program, places) for _ in range(rng.choice([0, 1, 1, 1, 2, 2, 3]))]
                steps = [index for index, step in enumerate(plain.order) if all(fulfils(step, one) for one in conditions)]
                found += 0 < len(steps) < len(plain.order)
                self.check(rng, run, plain, Probe(run, conditions), steps)
            for sort in ("objects", "units"):
                sizes = [step[sort] for step in plain.order]
                for most in {0, 1, 3, rng.randint(0, 30), max(sizes, default=0), max(sizes, default=0) - 1} - {-1}:
                    index = next((index for index, size in enumerate(sizes) if size > most), None)
                    self.assertEqual(runs_out(run, most, sort), None if index is None else plain.order[index]["spot"])
        self.assertGreater(found, 150)
        self.assertGreater(retired, 10)

    def check(self, rng, run, plain, probe, steps):
        order = plain.order
        for number in {0, len(steps) // 2, len(steps) - 1, len(steps), rng.randint(0, len(steps) + 3)} - {-1}:
            self.assertEqual(probe.find(number), order[steps[number]]["spot"] if number < len(steps) else None)
        spots = rng.sample(list(plain.seen), min(5, len(plain.seen)))
        for spot in spots:
            ahead = [index for index in steps if index < plain.seen[spot]["steps"]]
            behind = [index for index in steps if index >= plain.seen[spot]["steps"]]
            self.assertEqual(probe.count(spot), len(ahead))
            self.assertEqual(probe.after(spot), order[behind[0]]["spot"] if behind else None)
            self.assertEqual(probe.before(spot), order[ahead[-1]]["spot"] if ahead else None)
            for sort in ("objects", "units"):
                self.assertEqual(probe.total(spot, sort), sum(order[index][sort] for index in ahead))
                last = rng.choice(spots)
                between = [index for index in behind if index < plain.seen[last]["steps"]]
                best = max(between, key=lambda index: (order[index][sort], -index), default=None)
                self.assertEqual(probe.greatest(spot, last, sort), None if best is None else (order[best][sort], order[best]["spot"]))

    def test_far(self):
        """What is found far away is so by the views around it, and what is told of it agrees."""
        seen = 0
        for seed in range(90):
            rng = random.Random(seed)
            program = KINDS[seed % 4](rng, FAR - rng.randint(0, 40))
            try:
                run = Run(program)
            except (Grown, LimitExceeded):
                continue
            steps = [step for index in range(len(program.body())) if index <= run.last_spot()[0] for step in walk(run, (index,), 60)]
            places = sorted({place_of(program, spot)[0] for spot in steps}, key=repr)
            for _ in range(5):
                conditions = [some_condition(rng, program, places) for _ in range(rng.choice([1, 1, 2]))]
                if rng.random() < 0.4:
                    conditions.append((rng.choice(["objects", "units"]), rng.randint(0, 10 ** rng.randint(1, 30))))
                seen += self.check_far(rng, run, Probe(run, conditions), program, conditions)
        self.assertGreater(seen, 800)

    def check_far(self, rng, run, probe, program, conditions):
        many = probe.count(run.last_spot())
        self.assertIsNone(probe.find(many))
        numbers = {0, 1, 2, many - 1, many - 2, many // 2, rng.randint(0, many), rng.randint(0, many)}
        numbers = [number for number in numbers if 0 <= number < many]
        for number in numbers:
            spot = probe.find(number)
            behind = spot[:-1] + (spot[-1] + 1,)
            view = run.view(behind)
            self.assertEqual([probe.count(spot), probe.count(behind), probe.after(spot), probe.before(behind)], [number, number + 1, spot, spot])
            way, statement = place_of(program, spot)
            for condition in conditions:
                self.check_condition(condition, way, statement, view)
            for sort, size in (("objects", view.count()), ("units", view.units())):
                self.assertEqual(probe.total(behind, sort) - probe.total(spot, sort), size)
                self.assertEqual(probe.greatest(spot, behind, sort), (size, spot))
            # A few steps on from there, one by one.
            near = [probe.find(number + k) for k in range(12) if number + k < many]
            last = near[-1][:-1] + (near[-1][-1] + 1,)
            for sort in ("objects", "units"):
                views = [run.view(one[:-1] + (one[-1] + 1,)) for one in near]
                sizes = [one.count() if sort == "objects" else one.units() for one in views]
                self.assertEqual(probe.total(last, sort) - probe.total(spot, sort), sum(sizes))
                self.assertEqual(probe.greatest(spot, last, sort), (max(sizes), near[sizes.index(max(sizes))]))
        return len(numbers)

    def check_condition(self, condition, way, statement, view):
        word = condition[0]
        if word in ("objects", "units"):
            self.assertGreaterEqual(view.count() if word == "objects" else view.units(), condition[1])
        elif word == "word":
            self.assertEqual(statement[0], condition[1])
        elif word in ("at", "within"):
            self.assertEqual(way, condition)
        elif way[0] == "at":
            values = [view.value(name) for name in condition[1:] if word in ("nil", "some", "same", "unlike")]
            if "retired" in values or word in ("class", "tag") and view.value(condition[1]) == "retired":
                return
            if word in ("class", "tag"):
                self.assertEqual(view.row(view.value(condition[1]))[word == "tag"], condition[2])
            elif len(values) == 1:
                self.assertEqual(values[0] is None, word == "nil")
            else:
                self.assertEqual(values[0] == values[1], word == "same")


class Conditions(Base):
    def test_each_word(self):
        functions = [("f", ["y"], [], [("emit", "y"), ("clear", "y")], None)]
        body = [("new", "x", "node"), ("copy", "y", "x"), ("tag", "x", "t"), ("weak", "w", "y"), ("new", "y", "pair"), ("call", None, "f", ["x"]), ("clear", "x"), ("get", "x", "w")]
        run = run_of(body, functions=functions)
        def found(*conditions):
            probe = Probe(run, list(conditions))
            return [probe.find(number) for number in range(probe.count((8,)))]
        steps = [(0,), (1,), (2,), (3,), (4,), (5, 0), (5, 1), (6,), (7,)]
        self.assertEqual([found(), found(("some", "x"), ("nil", "x"))], [steps, []])
        self.assertEqual([found(("nil", "x")), found(("some", "w")), found(("nil", "w"))], [steps[7:], steps[3:7], steps[:3] + steps[7:]])
        # The variables are those of the program, also within a call.
        self.assertEqual([found(("same", "x", "y")), found(("unlike", "y", "x")), found(("same", "w", "x"))], [steps[1:4], steps[:1] + steps[4:], steps[3:]])
        self.assertEqual([found(("same", "x", "x")), found(("unlike", "x", "x")), found(("class", "y", "pair"))], [steps, [], steps[4:]])
        self.assertEqual([found(("tag", "x", "t")), found(("tag", "y", "pair")), found(("class", "w", "node"))], [steps[2:7], steps[4:], steps[3:7]])
        self.assertEqual([found(("objects", 2)), found(("units", 3)), found(("units", 4)), found(("objects", 0), ("units", 0))], [steps[4:7], steps[4:7], [], steps])
        self.assertEqual([found(("word", "clear")), found(("at", (6,))), found(("within", "f", (1,))), found(("word", "collect"))], [[(5, 1), (6,)], [(6,)], [(5, 1)], []])
        self.assertEqual(found(("some", "x"), ("some", "y"), ("word", "tag"), ("objects", 1), ("at", (2,)), ("units", 1)), [(2,)])

    def test_steps_that_fail_are_none(self):
        run = run_of([("new", "x", "node"), ("load", "y", "x", "next"), ("wipe", "y", "next"), ("emit", "x")])
        probe = Probe(run=run, conditions=[])
        self.assertEqual([probe.count(spot=(2,)), probe.find(number=1), probe.find(2), probe.before(spot=(2,)), probe.after(spot=(2,))], [2, (1,), None, (1,), None])
        self.assertEqual(Probe(run, [("word", "wipe")]).count((2,)), 0)
        self.assertEqual(self.raises(NotReached, probe.count, (3,)).spot, (3,))

    def test_retired_objects(self):
        grow = ("repeat", FAR, PUSH + [("clear", "y")])
        run = run_of([("new", "z", "node"), grow, ("emit", "z"), ("new", "y", "node"), ("emit", "y"), ("clear", "z"), ("emit", "z")], weak=("w", "v"))
        kept = run_of([("new", "z", "node"), ("repeat", FAR, PUSH + [("ifnil", "u", [("copy", "u", "y"), ("copy", "v", "y"), ("weak", "w", "y")], [])]), ("emit", "z"), ("clear", "z")],
                      variables=("x", "y", "z", "u", "v"))
        self.assertEqual([run.rhythm((1,))[0], kept.rhythm((1,))[0]], ["grows", "grows"])
        first, last = (2,), (4,)
        def behind(*conditions):
            probe = Probe(kept, list(conditions))
            return probe.count(last) - probe.count(first)
        self.assertEqual([behind(("some", "u")), behind(("some", "w")), behind(("nil", "u")), behind(("class", "u", "node")), behind(("tag", "v", "node"))], [2, 2, 0, 0, 0])
        self.assertEqual([behind(("same", "u", "v")), behind(("unlike", "u", "v")), behind(("same", "u", "w")), behind(("unlike", "w", "v"))], [0, 0, 0, 0])
        self.assertEqual([behind(("unlike", "u", "z")), behind(("same", "u", "z")), behind(("unlike", "z", "u")), behind(("unlike", "u", "x"))], [2, 0, 2, 2])
        # Within the repeat the object is still told.
        spot = (1, 10 ** 29, 0)
        self.assertEqual([Probe(kept, [(word, "u", "v")]).count(spot) for word in ("same", "unlike")], [3 * 10 ** 29 + 3, 1])
        self.assertEqual(Probe(kept, [("class", "u", "node"), ("same", "w", "v"), ("word", "new")]).count(spot), 10 ** 29 - 1)
        # Retired objects are counted.
        self.assertEqual([Probe(run, [("objects", FAR + 1)]).count((6,)), Probe(run, [("units", 10 ** 29)]).find(0)], [8, (1, 10 ** 29 - 2, 0)])

    def test_values(self):
        functions = [("f", ["a"], [], [("emit", "a"), ("ifnil", "a", [("clear", "a")], [])], None)]
        run = run_of([("new", "x", "node"), ("repeat", 3, [("emit", "x"), ("ifnil", "x", [], [("clear", "x")])]), ("call", None, "f", ["x"])], functions=functions)
        fine = [("nil", "x"), ("some", "w"), ("same", "x", "w"), ("unlike", "y", "y"), ("class", "x", "pair"), ("tag", "w", "anything"), ("objects", 0), ("units", FAR ** 200),
                ("word", "collect"), ("at", (0,)), ("at", (1, 0)), ("at", (1, 1, 1, 0)), ("within", "f", (0,)), ("within", "f", (1, 0, 0))]
        for condition in fine:
            Probe(run, [condition])
        bad = [(), ("nil",), ("nil", "u"), ("nil", "x", "y"), ("nil", None), ("same", "x"), ("same", "x", "u"), ("unlike", "x", "y", "z"), ("class", "x"), ("class", "x", "other"),
               ("class", "node", "x"), ("tag", "x", "Tag"), ("tag", "x", None), ("tag", "u", "t"), ("objects",), ("objects", -1), ("objects", True), ("objects", 1.0), ("units", "1"),
               ("units", None), ("word", "repeat"), ("word", "call"), ("word", "ifnil"), ("word", None), ("word", "none"), ("at", 0), ("at", ()), ("at", (1,)), ("at", (2,)), ("at", (3,)),
               ("at", (1, 0, 0)), ("at", (1, 2)), ("at", (1, 1, 0, 0)), ("at", (1, 1, 2, 0)), ("at", (1, 1)), ("at", (True,)), ("at", (0.0,)), ("at", [0]), ("at", (-1,)), ("at", (2, 0)),
               ("at", (0, 0)), ("at", (0,), 1), ("within", "f"), ("within", "g", (0,)), ("within", "f", (1,)), ("within", "f", (2,)), ("within", "f", (0, 0)), ("within", None, (0,)), ("within", "f", None),
               ("within", ["f"], (0,)), ("nil", ["x"]), (["nil"], "x"), ("word", {}), ("objects", [1]), ("other", "x"), ["nil", "x"], ("at", ([],)), ("class", "x", []),
               ("other", (0,)), ("class", "u", "node"), ("class", ["x"], "node"), ("tag", "x"), ("at",), ("word",), ("tag", "x", "t", "t"), ("at", (1, 1, 3, 0))]
        for condition in bad + all_but(lambda value: isinstance(value, tuple) and value == ("nil", "x")):
            for conditions in ([condition], [("some", "x"), condition]):
                self.assertEqual(self.raises(InvalidArgument, Probe, run, conditions).part, "conditions")
        for value in all_but(lambda value: isinstance(value, list) and value in ([], [("nil", "x")])) + [tuple(fine[:1]), fine[:7], [("nil", "x")] * 7]:
            self.assertEqual(self.raises(InvalidArgument, Probe, run, value).part, "conditions")
        self.assertEqual(Probe(run, [("some", "x")] * 6).count((1,)), 1)

    def test_later_changes(self):
        conditions = [("some", "x")]
        run = run_of([("new", "x", "node"), ("clear", "x")])
        probe = Probe(run, conditions)
        conditions[0] = ("nil", "x")
        conditions.append(3)
        self.assertEqual([probe.count((2,)), probe.greatest((0,), (2,), "objects")], [1, (1, (0,))])


class Questions(Base):
    def setUp(self):
        self.run = run_of([("new", "x", "node"), ("repeat", FAR, PUSH)], threshold=4)
        self.probe = Probe(self.run, [("word", "copy")])

    def test_far(self):
        probe = self.probe
        self.assertEqual([probe.count((1, 10 ** 29, 0)), probe.count((1, 10 ** 29, 2)), probe.count((1, 10 ** 29, 3)), probe.count((2,))], [10 ** 29, 10 ** 29, 10 ** 29 + 1, FAR])
        self.assertEqual([probe.after((1, 10 ** 29, 2)), probe.after((1, 10 ** 29, 3)), probe.after((2,)), probe.before((1, 10 ** 29, 2)), probe.before((1, 0, 2))],
                         [(1, 10 ** 29, 2), (1, 10 ** 29 + 1, 2), None, (1, 10 ** 29 - 1, 2), None])
        self.assertEqual([probe.total((1, 10 ** 29, 0), "objects"), probe.total(spot=(2,), sort="units")], [(10 ** 29 + 1) * (10 ** 29 + 2) // 2 - 1, (FAR + 1) * (FAR + 2) // 2 - 1])
        self.assertEqual(probe.greatest(begin=(1, 10 ** 28, 0), end=(1, 10 ** 29, 0), sort="objects"), (10 ** 29 + 1, (1, 10 ** 29 - 1, 2)))
        self.assertEqual([probe.greatest((1, 5, 0), (1, 5, 2), "units"), probe.greatest((2,), (1, 5, 0), "units"), probe.greatest((1, 5, 0), (1, 5, 3), "units")], [None, None, (7, (1, 5, 2))])

    def test_the_room_that_is_left(self):
        self.assertEqual([runs_out(self.run, 10 ** 20, "objects"), runs_out(run=self.run, most=0, sort="units"), runs_out(self.run, FAR, "units"), runs_out(self.run, FAR + 1, "units")],
                         [(1, 10 ** 20 - 1, 0), (0,), (1, FAR - 1, 0), None])
        run = run_of([("repeat", FAR, [("new", "y", "pair"), ("store", "y", "next", "x"), ("copy", "x", "y"), ("new", "z", "node")])], classes=(NODE, ("pair", 3, ["next"], False)))
        self.assertEqual([runs_out(run, 3 * 10 ** 29, "units"), runs_out(run, 3 * 10 ** 29 + 1, "units")], [(0, 10 ** 29 - 1, 0), (0, 10 ** 29, 0)])

    def test_conditions_on_sizes(self):
        probe = Probe(self.run, [("objects", 10 ** 20), ("word", "new"), ("units", 10 ** 19)])
        self.assertEqual([probe.find(0), probe.find(5), probe.count((1, 10 ** 21, 0)), probe.count((1, 10 ** 19, 0))], [(1, 10 ** 20 - 2, 0), (1, 10 ** 20 + 3, 0), 10 ** 21 - 10 ** 20 + 2, 0])
        self.assertEqual([probe.before((1, 10 ** 20, 0)), probe.after((0,)), probe.total((1, 10 ** 20, 0), "units")], [(1, 10 ** 20 - 1, 0), (1, 10 ** 20 - 2, 0), 2 * 10 ** 20 + 1])
        self.assertIsNone(Probe(self.run, [("objects", FAR + 2)]).find(0))

    def test_nested_repeats(self):
        inner = ("repeat", 10 ** 20, [("new", "x", "node"), ("ifnil", "y", [("emit", "x")], [("clear", "y")])])
        run = run_of([("repeat", 10 ** 25, [("repeat", 10 ** 15, [inner, ("new", "y", "pair"), ("new", "z", "pair")])])])
        probe = Probe(run, [("word", "emit")])
        self.assertEqual([probe.count((1,)), probe.count((0, 1, 0)), probe.count((0, 0, 0, 1, 0)), probe.count((0, 0, 0, 2, 0))],
                         [10 ** 60 - 10 ** 40 + 1, 10 ** 35 - 10 ** 15 + 1, 10 ** 20, 2 * 10 ** 20 - 1])
        self.assertEqual([probe.find(10 ** 20), probe.find(10 ** 35 - 10 ** 15 + 1)], [(0, 0, 0, 1, 0, 1, 1, 0, 0), (0, 1, 0, 0, 0, 1, 1, 0, 0)])
        clears = Probe(run, [("at", (0, 0, 0, 1, 1, 0))])
        self.assertEqual([clears.count((1,)), clears.find(10 ** 30)], [10 ** 40 - 1, (0, 10 ** 15, 0, 1, 0, 0, 1, 1, 0)])
        self.assertEqual(probe.greatest((0,), (1,), "units"), (3, (0, 0, 0, 1, 0, 1, 1, 0, 0)))

    def test_a_repeat_that_grows_around_others(self):
        block = [("repeat", 10 ** 10, [("new", "z", "pair")])] + PUSH
        run = run_of([("repeat", FAR, block)])
        self.assertEqual(run.rhythm((0,))[0], "grows")
        probe = Probe(run, [("word", "new"), ("class", "z", "pair")])
        self.assertEqual([probe.count((0, 10 ** 20, 0)), probe.find(10 ** 25)], [10 ** 20 * (10 ** 10 + 1), (0, 10 ** 25 // (10 ** 10 + 1), 0, 10 ** 25 % (10 ** 10 + 1), 0)])
        sizes = Probe(run, [("objects", 10 ** 20)])
        # Behind k rounds there are k objects and the one of z.
        self.assertEqual([sizes.find(0), sizes.find(3), sizes.find(10 ** 10)], [(0, 10 ** 20 - 2, 1), (0, 10 ** 20 - 1, 0, 0, 0), (0, 10 ** 20 - 1, 0, 10 ** 10 - 3, 0)])
        self.assertEqual([sizes.count((0, 10 ** 20, 0)), sizes.total((0, 10 ** 20, 0), "objects")], [10 ** 10 + 6, 10 ** 30 + 6 * 10 ** 20 + 3])
        self.assertEqual([probe.greatest((0, 5, 0), (0, 10 ** 20, 0), "objects"), probe.greatest((0, 5, 0), (0, 10 ** 20, 0, 10 ** 9, 0), "objects")],
                         [(10 ** 20 + 1, (0, 10 ** 20 - 1, 1)), (10 ** 20 + 1, (0, 10 ** 20 - 1, 1))])
        self.assertEqual(probe.greatest((0, 10 ** 20, 0), (0, 10 ** 20, 0, 10 ** 9, 0), "objects"), (10 ** 20 + 1, (0, 10 ** 20, 0, 0, 0)))

    def test_errors(self):
        run = run_of([("new", "x", "node"), ("ifnil", "x", [("clear", "x")], [("emit", "x")]), ("emit", "x")])
        probe = Probe(run, [])
        fits = lambda value: isinstance(value, tuple) and value in ((0,), (1,), (2,), (3,))
        for spot in all_but(fits):
            if spot in ((1, 0, 0), (0, 0)):
                continue
            for call, more in ((probe.count, ()), (probe.after, ()), (probe.before, ()), (probe.total, (3,)), (probe.greatest, (None, 3))):
                self.assertIs(self.raises(InvalidSpot, call, spot, *more).spot, spot)
            self.assertIs(self.raises(InvalidSpot, probe.greatest, (0,), spot, 3).spot, spot)
        for call, more in ((probe.count, ()), (probe.after, ()), (probe.before, ()), (probe.total, (3,)), (probe.greatest, (None, 3))):
            self.assertEqual(self.raises(NotReached, call, (1, 0, 0), *more).spot, (1, 0, 0))
        self.assertEqual(self.raises(NotReached, probe.greatest, (0,), (1, 0, 0), 3).spot, (1, 0, 0))
        for sort in all_but(lambda value: False) + ["Objects", "unit", ["units"], ("units",)]:
            self.assertEqual(self.raises(InvalidArgument, probe.total, (0,), sort).part, "sort")
            self.assertEqual(self.raises(InvalidArgument, probe.greatest, (2,), (0,), sort).part, "sort")
            self.assertEqual(self.raises(InvalidArgument, runs_out, run, 3, sort).part, "sort")
        for number in all_but(lambda value: is_plain_integer(value) and value >= 0):
            self.assertIs(self.raises(InvalidNumber, probe.find, number).number, number)
            self.assertIs(self.raises(InvalidNumber, runs_out, run, number, "none").number, number)


if __name__ == "__main__":
    unittest.main()
