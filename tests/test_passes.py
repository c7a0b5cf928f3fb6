"""Passes: [90] to [94]."""

import random
import unittest

from kinds import all_but
from plain import Plain
from programs_by_chance import growing_program, some_program
from roundheap.errors import Grown, InvalidArgument, InvalidProgram, LimitExceeded, RunError
from roundheap.passes import (
    lowering_clears, places, removable, same_log, simplified, statement_at, with_statement, without,
)
from roundheap.programs import Program
from roundheap.runs import Run

FAR = 10 ** 30
CLASSES = [("node", 1, ["next"], True), ("pair", 2, ["left", "right"], False)]
NEW = ("new", "x", "node")
PUSH = [("new", "y", "node"), ("store", "y", "next", "x"), ("copy", "x", "y")]
# A repeat that is not in the body itself does not grow: there are too many objects.
CROWD = ("ifnil", "z", [("repeat", FAR, PUSH)], [])


def make(body, variables=("x", "y", "z"), weak=("w",), threshold=2, radices=(), functions=(), classes=CLASSES):
    return Program(list(classes), body, variables=list(variables), weak=list(weak), threshold=threshold, radices=list(radices),
                   functions=list(functions))


def with_body(program, body):
    return Program(program.classes(), body, variables=program.variables(), weak=program.weak(), threshold=program.threshold(),
                   radices=program.radices(), functions=program.functions())


def parts(statement):
    """(what stands ahead of the places in a block, the block) for the blocks of a statement."""
    if statement[0] == "repeat":
        return [((), statement[2])]
    return [((0,), statement[-2]), ((1,), statement[-1])] if statement[0] in ("ifnil", "ifsame") else []


def plain_places(block, ahead=()):
    """(places of statements with them, places of the ends of blocks)"""
    rows, ends = [], [ahead + (len(block),)]
    for index, statement in enumerate(block):
        rows.append((ahead + (index,), statement))
        for way, part in parts(statement):
            more, further = plain_places(part, ahead + (index,) + way)
            rows += more
            ends += further
    return rows, ends


def changed(block, place, change):
    """A block with a change made to the list in which a place is: change(list, index)."""
    block = list(block)
    if len(place) == 1:
        change(block, place[0])
        return block
    statement = block[place[0]]
    if statement[0] == "repeat":
        block[place[0]] = statement[:2] + (changed(statement[2], place[1:], change),)
    else:
        at = len(statement) - 2 + place[1]
        block[place[0]] = statement[:at] + (changed(statement[at], place[2:], change),) + statement[at + 1:]
    return block


class Base(unittest.TestCase):
    def raises(self, error, call, *arguments):
        with self.assertRaises(error) as caught:
            call(*arguments)
        self.assertIs(type(caught.exception), error)
        return caught.exception


class Places(Base):
    def test_by_chance(self):
        for seed in range(60):
            program = (growing_program if seed % 2 else some_program)(random.Random(seed), 5)
            body = program.body()
            rows, ends = plain_places(body)
            self.assertEqual(places(program), [place for place, _ in rows])
            for place, statement in rows:
                self.assertEqual(statement_at(program, place), statement)
                less = changed(body, place, lambda block, index: block.pop(index))
                self.assertTrue(without(program, place) == with_body(program, less))
            for place in [place for place, _ in rows] + ends:
                more = changed(body, place, lambda block, index: block.insert(index, ("clear", "x")))
                self.assertTrue(with_statement(program, place, ("clear", "x")) == with_body(program, more))
            self.assertEqual(program.body(), body)

    def test_places_in_the_order_of_the_text(self):
        body = [("ifnil", "x", [NEW], [("repeat", 2, [NEW, NEW])]), ("repeat", 0, []), ("ifsame", "x", "y", [], [NEW])]
        program = make(body, functions=[("f", [], ["a"], [("clear", "a")], None)])
        self.assertEqual(places(program), [(0,), (0, 0, 0), (0, 1, 0), (0, 1, 0, 0), (0, 1, 0, 1), (1,), (2,), (2, 1, 0)])
        self.assertEqual([places(make([])), statement_at(program, (0, 1, 0)), statement_at(program=program, place=(1,))],
                         [[], ("repeat", 2, [NEW, NEW]), ("repeat", 0, [])])
        for place in ((0, 0, 1), (0, 1, 1), (0, 1, 0, 2), (1, 0), (2, 0, 0), (2, 1, 1), (3,)):
            self.assertEqual(with_statement(program=program, place=place, statement=("emit", "y")).body(), changed(body, place, lambda block, index: block.insert(index, ("emit", "y"))))
            for call in (statement_at, without):
                self.assertEqual(self.raises(InvalidArgument, call, program, place).part, "place")

    def test_wrong_places(self):
        program = make([NEW, ("ifnil", "x", [NEW], [])])
        own = [(), (2, 0), (1, 0), (1, 2, 0), (1, 0, 2), (1, 1, 1), (4,), (-1,), (True,), (1, False, 0), (1.0,), [0], ([],), (0, 0), (None,), "0", (0, None)]
        for place in own + all_but(lambda value: isinstance(value, tuple) and value in ((0,), (1,))):
            for call in (statement_at, without):
                self.assertEqual(self.raises(InvalidArgument, call, program, place).part, "place")
            # The place goes ahead of the statement.
            self.assertEqual(self.raises(InvalidArgument, with_statement, program, place, 3).part, "place")

    def test_wrong_statements(self):
        program = make([("repeat", 2, [NEW]), ("ifnil", "x", [], [])])
        for statement in all_but(lambda value: False) + [("new", "x"), ("clear", "u"), ("collect", 1), ("call", None, "f", []), ("emit", ["x"])]:
            error = self.raises(InvalidProgram, with_statement, program, (0, 1), statement)
            self.assertEqual([error.part, error.at], ["body", (0, 1)])
        error = self.raises(InvalidProgram, with_statement, program, (1, 1, 0), ("repeat", 2, [NEW, ("clear",)]))
        self.assertEqual([error.part, error.at], ["body", (1, 1, 0, 1)])
        deep = make([("repeat", 1, [("repeat", 1, [("repeat", 1, [])])])])
        self.assertEqual(self.raises(InvalidProgram, with_statement, deep, (0, 0, 0, 0), ("repeat", 1, [])).at, (0, 0, 0, 0))
        full = make([NEW] * 60)
        self.assertEqual(self.raises(InvalidProgram, with_statement, full, (60,), NEW).at, -1)
        self.assertEqual(len(without(full, (59,)).body()), 59)

    def test_what_is_handed_in_stays(self):
        block = [NEW]
        program = make([NEW])
        more = with_statement(program, (1,), ("repeat", 3, block))
        block.append(("bad",))
        more.body()[1][2].append("bad")
        self.assertEqual([more.body(), program.body()], [[NEW, ("repeat", 3, [NEW])], [NEW]])
        statement_at(more, (1,))[2].append("bad")
        places(more).append(3)
        self.assertEqual(more.body(), [NEW, ("repeat", 3, [NEW])])


ONCE = ("copy", "clear", "store", "wipe", "tag", "weak", "get", "collect")


def rules_that_apply(program, block):
    """The numbers of the rules that apply somewhere in a block."""
    found = []
    empty = [row[0] for row in program.functions() if row[3] == []]
    for index, one in enumerate(block):
        word = one[0]
        found += [1] * (word == "copy" and one[1] == one[2])
        found += [2] * (word == "repeat" and (one[1] == 0 or one[2] == []) or word in ("ifnil", "ifsame") and one[-2:] == ([], []))
        found += [2] * (word == "call" and one[1] is None and one[2] in empty)
        found += [3] * (word == "repeat" and len(one[2]) == 1 and one[2][0][0] == "repeat" and one[1] * one[2][0][1] <= FAR)
        found += [4] * (word == "repeat" and one[1] == 1)
        for other in block[index + 1:index + 2]:
            found += [5] * (word == "clear" and other[0] == "new" and one[1] == other[1])
            found += [5] * (word == "clear" and other[0] == "copy" and one[1] == other[1] != other[2])
            found += [6] * (one == other and (word in ONCE or word == "load" and one[1] != one[2]))
        for _, part in parts(one):
            found += rules_that_apply(program, part)
    return found


def clumsy_block(rng, depth):
    """A block to which many rules apply."""
    block = []
    for _ in range(rng.randint(0, 4)):
        x, y = rng.choice("xyz"), rng.choice("xyz")
        chance = rng.random()
        if chance < 0.25 and depth < 3:
            block.append(("repeat", rng.choice([0, 1, 1, 2, 3, 10 ** 15, 10 ** 15, 10 ** 16, FAR]), clumsy_block(rng, depth + 1)))
        elif chance < 0.4 and depth < 5:
            block.append(rng.choice([("ifnil", x), ("ifsame", x, y)]) + (clumsy_block(rng, depth + (depth > 2)), clumsy_block(rng, depth + (depth > 2))))
        elif chance < 0.5:
            block.append(("call", rng.choice([None, None, x]), rng.choice("fg"), [y]))
        else:
            ways = [("copy", x, y), ("clear", x), ("new", x, "node"), ("collect", 0), ("emit", x), ("weak", "w", x), ("get", x, "w")]
            ways += [("ifnil", x, [], [step]) for step in [("store", x, "next", y), ("wipe", x, "next"), ("tag", x, "t"), ("load", y, x, "next")]]
            block += [rng.choice(ways)] * rng.choice([1, 1, 2, 3])
    return block


class Simplified(Base):
    def clumsy(self, rng):
        functions = [("f", ["a"], [], [], "a"), ("g", ["a"], ["b"], [("copy", "b", "a")], "b")]
        while True:
            try:
                return make(clumsy_block(rng, 0) + clumsy_block(rng, 0), classes=CLASSES[:1], functions=functions, threshold=rng.choice([1, 2, 3]))
            except InvalidProgram:
                continue

    def test_by_chance(self):
        applied = set()
        compared = 0
        for seed in range(400):
            program = self.clumsy(random.Random(seed))
            body = program.body()
            applied.update(rules_that_apply(program, body))
            plainer = simplified(program)
            self.assertEqual([rules_that_apply(plainer, plainer.body()), program.body()], [[], body])
            self.assertTrue(with_body(plainer, body) == program)
            try:
                one, other = Run(program), Run(plainer)
            except RunError:
                continue
            compared += 1
            views = [run.view(run.last_spot()) for run in (one, other)]
            self.assertEqual(one.ended()[0], other.ended()[0])
            self.assertTrue(views[0].log() == views[1].log() and views[0].news() == views[1].news())
            self.assertGreaterEqual(views[0].steps(), views[1].steps())
        self.assertEqual(applied, {1, 2, 3, 4, 5, 6})
        self.assertGreater(compared, 200)

    def body_of(self, block, functions=()):
        return simplified(make(block, functions=functions)).body()

    def test_each_rule(self):
        emit = ("emit", "x")
        self.assertEqual(self.body_of([("copy", "x", "x"), emit, ("copy", "x", "y")]), [emit, ("copy", "x", "y")])
        functions = [("f", ["a"], [], [], "a"), ("g", [], [], [("collect", 0)], None)]
        calls = [("call", "x", "f", ["y"]), ("call", None, "g", [])]
        self.assertEqual(self.body_of([("repeat", 0, [emit]), ("repeat", 3, []), ("ifnil", "x", [], []), ("ifsame", "x", "y", [], []), ("call", None, "f", ["x"])] + calls, functions), calls)
        self.assertEqual(self.body_of([("repeat", 10 ** 15, [("repeat", 10 ** 15, [emit])])]), [("repeat", FAR, [emit])])
        nested = [("repeat", 10 ** 15, [("repeat", 10 ** 15 + 1, [emit])])]
        self.assertEqual(self.body_of(nested), nested)
        self.assertEqual(self.body_of([("repeat", 1, [emit, emit, ("repeat", 2, [emit])])]), [emit, emit, ("repeat", 2, [emit])])
        self.assertEqual(self.body_of([("clear", "x"), NEW, ("clear", "x"), ("copy", "x", "y"), ("clear", "y"), ("copy", "x", "y"), ("clear", "x"), emit]),
                         [NEW, ("copy", "x", "y"), ("clear", "y"), ("copy", "x", "y"), ("clear", "x"), emit])
        twice = [("copy", "x", "y"), ("clear", "z"), ("store", "x", "next", "y"), ("wipe", "x", "next"), ("tag", "x", "t"), ("weak", "w", "x"), ("get", "x", "w"), ("collect", 0), ("load", "x", "y", "next")]
        self.assertEqual(self.body_of([row for row in twice for _ in range(3)]), twice)
        kept = [NEW, NEW, emit, emit, ("load", "x", "x", "next"), ("load", "x", "x", "next"), ("call", None, "g", []), ("call", None, "g", [])]
        self.assertEqual(self.body_of(kept, functions), kept)

    def test_rules_that_bring_on_others(self):
        emit = ("emit", "x")
        self.assertEqual(self.body_of([("ifnil", "x", [("repeat", 1, [("copy", "x", "x")])], [("repeat", 5, [("repeat", 0, [emit])])])]), [])
        self.assertEqual(self.body_of([("copy", "x", "y"), ("clear", "x"), ("repeat", 1, [("copy", "x", "y")])]), [("copy", "x", "y")])
        self.assertEqual(self.body_of([("clear", "x"), ("repeat", 1, [("clear", "x")]), ("ifnil", "x", [], []), NEW]), [NEW])
        self.assertEqual(self.body_of([("repeat", 10 ** 10, [("copy", "y", "y"), ("repeat", 10 ** 10, [("repeat", 10 ** 10, [emit]), ("repeat", 3, [])])])]), [("repeat", FAR, [emit])])
        self.assertEqual(self.body_of([("repeat", 2, [("repeat", 1, [("repeat", 3, [emit])])])]), [("repeat", 6, [emit])])
        self.assertEqual(simplified(program=make([NEW, NEW])).body(), [NEW, NEW])

    def test_functions_stay(self):
        functions = [("f", ["a"], [], [("copy", "a", "a"), ("repeat", 1, [("clear", "a")])], "a")]
        program = simplified(make([("call", None, "f", ["x"])], functions=functions))
        self.assertEqual([program.functions(), program.body()], [functions, [("call", None, "f", ["x"])]])

    def test_deep_blocks(self):
        block = [("emit", "x")]
        for _ in range(58):
            block = [("ifnil", "x", block, [])]
        self.assertEqual(self.body_of(block), block)


class Removing(Base):
    def alike(self, one, other):
        return one.end[0] == other.end[0] and one.log == other.log

    def play(self, program):
        plain = Plain(program)
        plain.grows = False
        return plain.play()

    def small(self, rng):
        """A program of few statements and rounds."""
        while True:
            program = some_program(rng, rng.choice([2, 3, 5]))
            if len(places(program)) < 16:
                return program

    def test_by_chance(self):
        found = lowered = 0
        for seed in range(100):
            rng = random.Random(seed)
            program = self.small(rng)
            whole = self.play(program)
            expected = [place for place in places(program) if self.alike(whole, self.play(without(program, place)))]
            self.assertEqual(removable(program), expected)
            found += len(expected)
            rows, ends = plain_places(program.body())
            clears = []
            for place in [place for place, _ in rows] + ends:
                for name in program.variables():
                    other = self.play(with_statement(program, place, ("clear", name)))
                    if self.alike(whole, other) and other.peak[0] < whole.peak[0]:
                        clears.append((place, name, other.peak[0]))
            self.assertEqual(lowering_clears(program), sorted(clears))
            lowered += len(clears)
            other = self.small(rng)
            self.assertIs(same_log(program, other), self.alike(whole, self.play(other)))
            self.assertTrue(same_log(program, program))
        self.assertGreater(found, 100)
        self.assertGreater(lowered, 30)

    def test_far(self):
        ring = [("new", "x", "node"), ("store", "x", "next", "x"), ("emit", "x"), ("clear", "y"), ("new", "z", "pair")]
        program = make([("repeat", FAR, ring)])
        self.assertEqual(removable(program), [(0, 3)])
        self.assertEqual(same_log(program, without(program, (0, 3))), True)
        self.assertEqual(same_log(program, without(program, (0, 2))), False)
        self.assertEqual(same_log(one=make([("repeat", FAR, [("emit", "x")])]), other=make([("repeat", FAR - 1, [("emit", "x")]), ("emit", "x")])), True)
        self.assertEqual(same_log(make([("repeat", FAR, [("emit", "x")])]), make([("repeat", FAR - 1, [("emit", "x")])])), False)

    def test_ends(self):
        fails = make([("emit", "x"), ("wipe", "x", "next")])
        other = make([("repeat", 2, [("emit", "x"), ("tag", "x", "t")])])
        done = make([("emit", "x")])
        self.assertEqual([same_log(fails, other), same_log(fails, done), same_log(done, done)], [True, False, True])
        self.assertEqual([removable(fails), removable(done), removable(make([("wipe", "x", "next"), ("emit", "x")]))], [[], [], [(1,)]])

    def test_a_repeat_that_grows(self):
        program = make([("repeat", FAR, PUSH + [("emit", "y")]), ("clear", "z")], threshold=1, classes=[("node", 1, ["next"], False)])
        self.assertEqual(removable(program), [(0, 1), (0, 2), (1,)])
        # Without the head of the list no object is kept; ahead of the new it is still in y.
        self.assertEqual(lowering_clears(program), [((0, 0), "x", 1), ((0, 1), "x", 2), ((0, 3), "x", 1), ((0, 4), "x", 1)])

    def test_peaks(self):
        program = make([("new", "x", "node"), ("new", "y", "node"), ("new", "z", "node"), ("emit", "z")], classes=[("node", 1, [], False)], threshold=1)
        self.assertEqual(lowering_clears(program), [((1,), "x", 2), ((2,), "x", 2), ((2,), "y", 2)])
        self.assertEqual(lowering_clears(program=make([])), [])

    def test_errors(self):
        program, crowd = make([NEW]), make([CROWD])
        touching = make([("repeat", FAR, PUSH), ("clear", "y"), ("load", "x", "x", "next"), ("load", "x", "x", "next")], threshold=1)
        spot = self.raises(Grown, Run, touching).spot
        for call in (removable, lowering_clears):
            self.assertEqual(self.raises(LimitExceeded, call, crowd).limit, 200)
            self.assertEqual(self.raises(Grown, call, touching).spot, spot)
        self.assertEqual(self.raises(LimitExceeded, same_log, crowd, touching).limit, 200)
        self.assertEqual(self.raises(Grown, same_log, touching, crowd).spot, spot)
        self.assertEqual(self.raises(Grown, same_log, program, touching).spot, spot)

    def test_programs_that_do_not_count(self):
        # Without the new, and with z cleared ahead, there would be too many objects.
        program = make([("new", "z", "node"), CROWD, ("clear", "z")], classes=[("node", 1, ["next"], False)], threshold=1)
        within = [(1, 0, 0), (1, 0, 0, 0), (1, 0, 0, 1), (1, 0, 0, 2)]
        self.assertEqual([removable(program), lowering_clears(program)], [[(1,)] + within + [(2,)], []])
        body = [("new", "x", "node"), ("new", "z", "node"), CROWD, ("new", "y", "node")]
        program = make(body, classes=[("node", 1, ["next"], False)], threshold=1)
        self.assertEqual(lowering_clears(program), [((1,), "x", 2), ((2,), "x", 2), ((2, 1, 0), "x", 2), ((2, 1, 0), "z", 2), ((3,), "x", 2), ((3,), "z", 2)])


if __name__ == "__main__":
    unittest.main()
