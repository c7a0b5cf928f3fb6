"""The machine: [16] to [24]."""

import random
import unittest

from kinds import all_but, is_plain_integer
from living import Living
from programs_by_chance import growing_program, some_program
from roundheap.errors import InvalidName, InvalidNumber, InvalidProgram, RunError
from roundheap.machine import Machine
from roundheap.programs import Program
from roundheap.runs import Run

FAR = 10 ** 30
CLASSES = [("node", 1, ["next"], True), ("pair", 2, ["left", "right"], False)]


def make(body, classes=CLASSES, variables=("x", "y", "z"), weak=("w",), threshold=2, radices=(3,), functions=()):
    return Program(classes, body, variables=list(variables), weak=list(weak), threshold=threshold, radices=list(radices),
                   functions=list(functions))


class Told(Living):
    """A plain memory in which nothing is retired; `ahead` has the steps' spots and what there is ahead of them."""

    grows = False

    def play(self):
        self.ahead = []
        return super().play()

    def simple(self, statement, spot):
        self.ahead.append((spot, self.seen[spot]))
        super().simple(statement, spot)


def told_by(machine):
    rows = {number: machine.row(number) for number in machine.objects()}
    return {"rows": rows, "variables": machine.variables(), "weak": machine.weak(), "news": machine.news(),
            "units": machine.units(), "pools": {size: machine.pool(size) for size in range(1, 9)}, "log": len(machine.log())}


class Compared(unittest.TestCase):
    def same(self, machine, seen):
        for word, value in told_by(machine).items():
            self.assertEqual(value, seen[word], word)

    def follow(self, program):
        """Compare a machine with a plain memory step by step."""
        plain = Told(program).play()
        machine = Machine(program)
        for index, (spot, seen) in enumerate(plain.ahead):
            self.assertEqual([machine.next_spot(), machine.ended()], [spot, None])
            self.same(machine, seen)
            for name, value in list(seen["weak"].items()) + list(seen["variables"].items()):
                self.assertEqual(machine.value(name), seen["variables"].get(name, value))
            self.assertEqual(machine.step(), spot)
        self.assertEqual(machine.ended(), plain.end)
        self.assertEqual(machine.next_spot(), (len(program.body()),) if plain.end == ("done",) else plain.end[1])
        self.assertEqual([machine.step(), machine.steps(5), machine.log()], [None, 0, plain.log])
        self.same(machine, plain.seen[machine.next_spot()])
        self.assertEqual(machine.collections(), plain.news // program.threshold())
        return plain

    def test_programs_by_chance(self):
        ends = set()
        for seed in range(120):
            rng = random.Random(seed)
            program = growing_program(rng, 9) if seed % 3 == 0 else some_program(rng, 6)
            ends.add(self.follow(program).end[0])
        self.assertEqual(ends, {"done", "failed"})

    def test_views(self):
        for seed in range(40):
            program = some_program(random.Random(seed), 9)
            try:
                run = Run(program)
            except RunError:
                continue
            machine = Machine(program)
            while machine.ended() is None:
                view = run.view(machine.next_spot())
                if view.retired() == (0, 0):
                    for word in ("variables", "weak", "objects", "news", "collections", "units"):
                        self.assertEqual(getattr(machine, word)(), getattr(view, word)(), word)
                    for number in view.objects():
                        self.assertEqual(machine.row(number), view.row(number))
                    for size in range(1, 9):
                        self.assertEqual(machine.pool(size), view.pool(size))
                    self.assertEqual(len(machine.log()), view.log().length())
                machine.step()
            self.assertEqual(machine.ended(), run.ended())
            self.assertEqual(machine.next_spot(), run.last_spot())

    def test_beyond_the_limits_of_a_run(self):
        push = [("new", "y", "node"), ("store", "y", "next", "x"), ("copy", "x", "y")]
        machine = Machine(make([("repeat", FAR, push)], threshold=12, radices=[]))
        self.assertEqual(machine.steps(21000), 21000)
        self.assertEqual([machine.news(), machine.units(), machine.next_spot()], [7000, 7000, (0, 7000, 0)])
        self.assertEqual([machine.objects(), machine.pool(1)], [list(range(7000)), ([], 7000)])
        self.assertEqual(machine.row(6999), ("node", "node", {"next": 6998}, 0, (1, 6999)))


def silent_block(rng, names, functions, depth):
    """A block in which there are few simple statements or none."""
    block = []
    for _ in range(rng.randint(1, 3)):
        chance = rng.random()
        x, y = rng.choice(names), rng.choice(names)
        if chance < 0.6:
            name, parameters, _, _, result = rng.choice(functions)
            target = None if result is None else rng.choice(names + [None])
            block.append(("call", target, name, [rng.choice(names) for _ in parameters]))
        elif chance < 0.75 and depth < 2:
            block.append(("repeat", rng.choice([0, 1, 2, 5, 9]), silent_block(rng, names, functions, depth + 1)))
        elif chance < 0.97:
            word = rng.choice([("ifnil", x), ("ifsame", x, y)])
            few = [("emit", x)] if rng.random() < 0.15 else []
            block.append(word + (silent_block(rng, names, functions, depth), few))
        else:
            block.append(rng.choice([("emit", x), ("new", x, "node"), ("copy", x, y)]))
    return block


def silent_program(rng, rounds):
    names = ["x", "y", "z", "u"]
    functions = [("f", ["a", "b"], ["c"], [], "b"), ("g", ["a"], ["c"], [], "c"), ("h", ["a", "b"], [], [("call", "a", "f", ["b", "a"])], "a"),
                 ("k", ["a", "b", "c"], [], [("ifnil", "a", [("call", "c", "h", ["a", "b"])], [("ifsame", "a", "b", [], [("call", "c", "f", ["c", "a"])])])], "c")]
    begin = [("new", name, rng.choice(["node", "pair"])) for name in names if rng.random() < 0.8]
    begin += [("store", "x", "next", "y")] if begin[:1] == [("new", "x", "node")] else []
    body = begin + [("weak", "w", "x"), ("repeat", rounds, silent_block(rng, names, functions, 0)), ("emit", "x"), ("emit", "y"), ("clear", "x")]
    try:
        return make(body, variables=names, functions=functions)
    except InvalidProgram:
        # There were too many statements.
        return silent_program(rng, rounds)


class Silent(Compared):
    """Rounds in which no simple statement is done are gone through at once."""

    def test_by_chance(self):
        for seed in range(150):
            rng = random.Random(seed)
            self.follow(silent_program(rng, rng.choice([1, 2, 3, 7, 12, 25])))

    def test_far_rounds_are_as_near_ones(self):
        compared = 0
        for seed in range(120):
            ends = []
            for rounds in list(range(60, 80)) + [FAR - 19 + k for k in range(20)]:
                machine = Machine(silent_program(random.Random(seed), rounds))
                machine.steps(300)
                ends.append((machine.ended(), machine.variables(), machine.objects(), machine.weak(), machine.log()))
            near, far = ends[:20], ends[20:]
            if any(end[0] is None for end in ends):
                continue
            # Rounds that change nothing in the end come back after 1, 2, 3, 4 or 6 rounds.
            periods = [period for period in (1, 2, 3, 4, 6) if near[period:] == near[:-period]]
            if periods:
                compared += 1
                self.assertEqual(far, [near[(FAR - 19 + k - 60) % periods[0]] for k in range(20)])
        self.assertGreater(compared, 60)

    def test_nested_far_rounds(self):
        functions = [("f", ["a", "b"], [], [], "b"), ("g", [], ["a"], [], "a")]
        swap = [("call", "z", "f", ["y", "x"]), ("call", "x", "f", ["x", "y"]), ("call", "y", "f", ["x", "z"]), ("call", "z", "g", [])]
        body = [("new", "x", "node"), ("new", "y", "pair"), ("repeat", FAR, [("repeat", FAR - 1, [("repeat", FAR - 1, swap)])]), ("emit", "x"),
                ("repeat", FAR - 1, [("repeat", FAR - 1, [("repeat", FAR - 1, swap)])]), ("emit", "x"), ("emit", "y")]
        machine = Machine(make(body, functions=functions))
        self.assertEqual([machine.steps(2), machine.next_spot(), machine.variables()], [2, (3,), {"x": 0, "y": 1, "z": None}])
        self.assertEqual([machine.step(), machine.next_spot(), machine.variables()], [(3,), (5,), {"x": 1, "y": 0, "z": None}])
        self.assertEqual([machine.steps(FAR), machine.log()], [2, [("emit", "node"), ("emit", "pair"), ("emit", "node")]])

    def test_objects_that_are_freed_on_the_way(self):
        functions = [("g", [], ["a"], [], "a")]
        body = [("new", "x", "node"), ("weak", "w", "x"), ("repeat", FAR, [("repeat", FAR, []), ("call", "x", "g", [])]), ("emit", "y")]
        machine = Machine(make(body, functions=functions))
        self.assertEqual([machine.steps(2), machine.objects(), machine.log(), machine.weak()], [2, [], [("final", "node")], {"w": None}])
        self.assertEqual([machine.next_spot(), machine.pool(1)], [(3,), ([], 0)])

    def test_at_the_making(self):
        functions = [("f", ["a"], ["b"], [("emit", "a")], "b")]
        self.assertEqual(Machine(make([])).ended(), ("done",))
        self.assertEqual(Machine(make([])).next_spot(), (0,))
        self.assertEqual(Machine(make([("repeat", FAR, [("ifnil", "x", [], [("emit", "x")])])])).ended(), ("done",))
        machine = Machine(make([("repeat", 0, [("emit", "x")]), ("ifnil", "x", [("repeat", 3, [("call", "y", "f", ["z"])])], [])], functions=functions))
        self.assertEqual([machine.next_spot(), machine.variables(), machine.ended()], [(1, 0, 0, 0, 0, 0), {"a": None, "b": None}, None])
        self.assertEqual(machine.step(), (1, 0, 0, 0, 0, 0))
        self.assertEqual(machine.next_spot(), (1, 0, 0, 1, 0, 0))

    def test_a_few_rounds_with_steps(self):
        # The objects of three variables go round: in every third round one is told.
        functions = [("f", ["a"], [], [], "a")]
        turn = [("call", "u", "f", ["x"]), ("call", "x", "f", ["y"]), ("call", "y", "f", ["z"]), ("call", "z", "f", ["u"])]
        body = [("new", "x", "node"), ("clear", "y"), ("repeat", FAR, turn + [("ifnil", "x", [], [("emit", "x")])]), ("emit", "x")]
        machine = Machine(make(body, variables=["x", "y", "z", "u"], functions=functions))
        spots = [machine.step() for _ in range(6)]
        self.assertEqual(spots, [(0,), (1,), (2, 2, 4, 1, 0), (2, 5, 4, 1, 0), (2, 8, 4, 1, 0), (2, 11, 4, 1, 0)])


class Parts(unittest.TestCase):
    def setUp(self):
        body = [("new", "x", "node"), ("new", "y", "pair"), ("store", "y", "left", "x"), ("weak", "w", "y"), ("emit", "x"), ("clear", "x")]
        self.machine = Machine(make(body + [("load", "x", "x", "next"), ("emit", "x")], weak=["w", "v"]))

    def raises(self, error, call, *arguments):
        with self.assertRaises(error) as caught:
            call(*arguments)
        self.assertIs(type(caught.exception), error)
        return caught.exception

    def test_failures(self):
        self.assertEqual([self.machine.steps(100), self.machine.ended(), self.machine.next_spot()], [7, ("failed", (6,)), (6,)])
        self.assertEqual([self.machine.step(), self.machine.steps(3), self.machine.log()], [None, 0, [("emit", "node")]])
        for bad in (("store", "x", "next", "y"), ("wipe", "x", "next"), ("tag", "x", "t"), ("load", "y", "x", "next")):
            machine = Machine(make([("repeat", 3, [bad])]))
            self.assertEqual([machine.step(), machine.ended(), machine.next_spot()], [(0, 0, 0), ("failed", (0, 0, 0)), (0, 0, 0)])
        machine = Machine(make([("new", "x", "node"), ("wipe", "x", "left")]))
        self.assertEqual([machine.steps(1), machine.ended(), machine.steps(1), machine.ended()], [1, None, 1, ("failed", (1,))])

    def test_dicts_and_lists_are_new(self):
        self.machine.steps(4)
        for call in (self.machine.variables, self.machine.weak, self.machine.objects, self.machine.log):
            told = call()
            told.clear()
            told.update({"x": 9}) if isinstance(told, dict) else told.append(9)
            self.assertNotEqual(call(), told)
        self.machine.row(1)[2]["left"] = 9
        self.machine.pool(1)[0].append(9)
        self.assertEqual([self.machine.row(1)[2], self.machine.pool(1)], [{"left": 0, "right": None}, ([], 1)])

    def test_values(self):
        self.machine.steps(4)
        self.assertEqual([self.machine.value(name="x"), self.machine.value("z"), self.machine.value("w"), self.machine.value("v")], [0, None, 1, None])
        for name in all_but(lambda value: isinstance(value, str) and value in ("x", "y", "z", "w", "v")):
            self.assertIs(self.raises(InvalidName, self.machine.value, name).name, name)

    def test_within_a_call(self):
        functions = [("f", ["y"], ["u"], [("new", "u", "node"), ("emit", "y")], "u")]
        machine = Machine(make([("new", "x", "pair"), ("call", "x", "f", ["x"]), ("emit", "x")], functions=functions, weak=["w"]))
        self.assertEqual([machine.steps(1), machine.next_spot(), machine.variables()], [1, (1, 0), {"y": 0, "u": None}])
        self.assertEqual([machine.value("u"), machine.value("y"), machine.value("w")], [None, 0, None])
        self.assertEqual(self.raises(InvalidName, machine.value, "x").name, "x")
        self.assertEqual([machine.steps(2), machine.next_spot(), machine.variables()], [2, (2,), {"x": 1, "y": None, "z": None}])

    def test_pools(self):
        body = [("new", name, "node") for name in "xyz"] + [("clear", "y"), ("clear", "x"), ("clear", "z"), ("new", "x", "node")]
        machine = Machine(make(body, radices=[]))
        machine.steps(4)
        self.assertEqual(machine.pool(1), ([1], 3))
        self.assertEqual([machine.steps(1), machine.pool(1)], [1, ([0, 1], 3)])
        self.assertEqual([machine.steps(1), machine.pool(size=1)], [1, ([2, 0, 1], 3)])
        self.assertEqual([machine.steps(1), machine.pool(1), machine.pool(2), machine.units()], [1, ([0, 1], 3), ([], 0), 1])
        machine = Machine(make(body[:3] + [("clear", "z"), ("clear", "y")], radices=[]))
        self.assertEqual([machine.steps(9), machine.pool(1)], [5, ([], 1)])

    def test_numbers(self):
        self.machine.steps(4)
        for value in all_but(lambda value: is_plain_integer(value) and value in (0, 1)):
            self.assertIs(self.raises(InvalidNumber, self.machine.row, value).number, value)
        for value in all_but(lambda value: is_plain_integer(value) and 1 <= value <= 8):
            self.assertIs(self.raises(InvalidNumber, self.machine.pool, value).number, value)
        for value in all_but(lambda value: is_plain_integer(value) and value >= 0):
            self.assertIs(self.raises(InvalidNumber, self.machine.steps, value).number, value)
        self.assertEqual([self.machine.next_spot(), self.machine.steps(most=0), self.machine.steps(10 ** 40)], [(4,), 0, 3])
        self.raises(InvalidNumber, self.machine.steps, -1)
        self.assertEqual(self.machine.row(number=1)[0], "pair")

    def test_programs_stay_as_they_are(self):
        program = self.machine = make([("repeat", 5, [("new", "x", "node")])])
        one, other = Machine(program=program), Machine(program)
        one.steps(3)
        self.assertEqual([one.news(), other.news(), program == make([("repeat", 5, [("new", "x", "node")])])], [3, 0, True])

    def test_collections(self):
        # Two objects that hold one another are freed by the collection of their generation alone.
        ring = [("new", "x", "node"), ("store", "x", "next", "x"), ("clear", "x")]
        machine = Machine(make([("repeat", 7, ring)], threshold=2, radices=[2]))
        counts = []
        while machine.ended() is None:
            machine.step()
            counts.append((machine.news(), machine.collections(), len(machine.objects())))
        self.assertEqual(counts[::3], [(1, 0, 1), (2, 1, 1), (3, 1, 2), (4, 2, 1), (5, 2, 2), (6, 3, 2), (7, 3, 3)])
        self.assertEqual(machine.objects(), [3, 5, 6])


if __name__ == "__main__":
    unittest.main()
