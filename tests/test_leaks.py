"""Strips of repeats that grow, and which references keep what they leave: [85] to [89]."""

import random
import unittest

from kinds import HUGE, all_but, odd_values
from played import play, some_that_grow
from programs_by_chance import growing_program
from roundheap.errors import InvalidArgument, InvalidNumber, InvalidSpot, NotReached
from roundheap.growing import Growing
from roundheap.leaks import Strip, leak_cut
from roundheap.programs import Program
from roundheap.runs import Run

FAR = 10 ** 30
NODE = ("node", 1, ["next"], False)
BOTH = ("both", 1, ["next", "back"], False)
HEAD = [("new", "y", "node"), ("store", "y", "next", "x"), ("copy", "x", "y"), ("clear", "y")]
TAIL = [("new", "y", "node"), ("store", "x", "next", "y"), ("copy", "x", "y"), ("clear", "y")]


def run_of(body, classes=(NODE, BOTH), variables=("x", "y", "z", "u"), weak=("w",), threshold=1, radices=(), functions=()):
    return Run(Program(list(classes), body, variables=list(variables), weak=list(weak), threshold=threshold,
                       radices=list(radices), functions=list(functions)))


def live_in(references, ended=()):
    live, ways = set(), [target for reference, target in references if reference[0] == "variable" and reference not in ended]
    fields = {}
    for reference, target in references:
        if reference[0] == "field" and reference not in ended:
            fields.setdefault(reference[1], []).append(target)
    while ways:
        item = ways.pop()
        if item not in live:
            live.add(item)
            ways += fields.get(item, [])
    return live


def leading_in(references, goals, ended):
    """How many objects lead to some by fields if references have ended."""
    back = {}
    for reference, target in references:
        if reference[0] == "field" and reference not in ended:
            back.setdefault(target, []).append(reference[1])
    found, ways = set(goals), list(goals)
    while ways:
        for item in back.get(ways.pop(), []):
            if item not in found:
                found.add(item)
                ways.append(item)
    return len(found)


class Base(unittest.TestCase):
    def raises(self, error, call, *arguments):
        with self.assertRaises(error) as caught:
            call(*arguments)
        self.assertIs(type(caught.exception), error)
        return caught.exception

    def check_cut(self, strip, first, last):
        """Check a cut and its paths, and that no other cut that is as small has fewer objects behind it."""
        references = strip.references()
        targets = dict(references)
        goals = [item for item in strip.objects() if item[0] == "left" and first <= item[2] <= last]
        cut, paths = strip.cut(first, last)
        order = {reference: index for index, (reference, _) in enumerate(references)}
        self.assertEqual(cut, sorted(cut, key=order.get))
        self.assertFalse(live_in(references, cut) & set(goals))
        self.assertEqual(len(paths), len(cut))
        used = [reference for path in paths for reference in path]
        self.assertEqual(len(used), len(set(used)))
        for path in paths:
            self.assertEqual(path[0][0], "variable")
            passed = [targets[path[0]]]
            for reference in path[1:]:
                self.assertEqual(reference[:2], ("field", passed[-1]))
                passed.append(targets[reference])
            self.assertIn(passed[-1], goals)
            self.assertEqual(len(passed), len(set(passed)))
        if len(cut) == 1:
            fewest = leading_in(references, goals, cut)
            for reference, _ in references:
                if not live_in(references, [reference]) & set(goals):
                    self.assertLessEqual(fewest, leading_in(references, goals, [reference]))
        return cut


class ByChance(Base):
    @classmethod
    def setUpClass(cls):
        cls.grown = some_that_grow(700, 745, 22)

    def test_strips_are_what_there_is_in_rounds(self):
        self.assertGreater(len(self.grown), 9)
        for played in self.grown:
            names = played.plain.program.variables()
            before = played.repeat.before
            old = played.parts(0)[2]
            for count in range(1, min(played.periods, 9) + 1):
                objects, own, _ = played.parts(count)
                held = played.snap(count)[1]
                strip = Strip(played.run, played.spot, count)
                items = strip.objects()
                left = [("left", slot, period) for period in range(count) for slot in range(len(played.left(0)))]
                self.assertEqual(items, [("old", number) for number in old] + left + [("core", index) for index in range(len(own))])
                numbers = {item: strip.number_for(item) for item in items}
                self.assertEqual(sorted(numbers.values()), [number for number in sorted(objects) if number not in before])
                self.assertEqual([numbers[("core", index)] for index in range(len(own))], own)
                for item in left:
                    self.assertEqual(numbers[item], played.left(item[2])[item[1]])
                rows = [(("variable", index), held[name]) for index, name in enumerate(names)]
                for item in items:
                    fields = objects[numbers[item]]["fields"]
                    rows += [(("field", item, name), fields[name]) for name in fields]
                rows = [row for row in rows if row[1] is not None and row[1] not in before]
                self.assertEqual([(reference, numbers[target]) for reference, target in strip.references()], rows)

    def test_cuts(self):
        rng = random.Random(1)
        for played in self.grown:
            strip = Strip(played.run, played.spot, rng.randint(2, 9))
            periods = len({item[2] for item in strip.objects() if item[0] == "left"})
            first = rng.randrange(periods)
            self.check_cut(strip, first, rng.randrange(first, periods))

    def test_dead_without(self):
        rng = random.Random(2)
        for played in self.grown:
            strip = Strip(played.run, played.spot, 6)
            references = strip.references()
            for _ in range(4):
                ended = rng.sample([reference for reference, _ in references], min(3, len(references)))
                live = live_in(references, ended)
                self.assertEqual(strip.dead_without(ended), [item for item in strip.objects() if item not in live])


class ByHand(Base):
    def test_a_list_that_grows_at_its_head(self):
        run = run_of([("new", "x", "node"), ("repeat", FAR, HEAD)])
        first = run.rhythm((1,))[1]
        strip = Strip(run, (1,), 5)
        self.assertEqual(strip.objects(), [("old", number) for number in range(1, first)] + [("left", 0, period) for period in range(5)] + [("core", 0), ("core", 1)])
        self.assertEqual([strip.number_for(item) for item in strip.objects()], list(range(1, first)) + [first + period for period in range(5)] + [0, first + 5])
        self.assertEqual(strip.references()[0], (("variable", 0), ("core", 1)))
        self.assertIn((("field", ("left", 0, 3), "next"), ("left", 0, 2)), strip.references())
        self.assertIn((("field", ("core", 1), "next"), ("left", 0, 4)), strip.references())
        self.assertEqual(strip.cut(0, 4)[0], [("field", ("core", 1), "next")])
        self.assertEqual(strip.cut(1, 2)[0], [("field", ("left", 0, 3), "next")])
        self.assertEqual(strip.dead_without([("field", ("left", 0, 3), "next")]),
                         [("old", number) for number in range(1, first)] + [("left", 0, 0), ("left", 0, 1), ("left", 0, 2), ("core", 0)])
        self.assertEqual(strip.dead_without([]), [])

    def test_counts_of_the_document(self):
        both = [("new", "y", "both"), ("store", "y", "next", "x"), ("store", "x", "back", "y"), ("copy", "x", "y"), ("clear", "y")]
        cases = [([("new", "x", "node")], HEAD, 1), ([("new", "x", "node"), ("copy", "u", "x")], TAIL, 1), ([("new", "x", "both"), ("copy", "u", "x")], both, 2),
                 ([("new", "x", "both")], both, 1)]
        for ahead, turn, count in cases:
            run = run_of(ahead + [("repeat", FAR, turn)])
            spot = (len(ahead),)
            growing = Growing(run, spot)
            told, margin = leak_cut(run, spot)
            self.assertEqual([told, margin], [count, 4 + growing.count() + len(growing.fates())])
            strip = Strip(run, spot, 3 * margin)
            self.assertEqual(len(self.check_cut(strip, margin, 2 * margin)), count)

    def test_several_lists(self):
        turn = HEAD + [("new", "y", "both"), ("store", "y", "next", "u"), ("copy", "u", "y"), ("clear", "y"), ("new", "y", "both"), ("store", "y", "back", "z"), (
            "copy", "z", "y"), ("clear", "y")]
        run = run_of([("new", "x", "node"), ("repeat", FAR, turn)])
        self.assertEqual(leak_cut(run, (1,))[0], 3)

    def test_periods_far_behind_the_run(self):
        for rounds in (FAR, 4, 9):
            run = run_of([("new", "x", "node"), ("repeat", rounds, HEAD)])
            if run.rhythm((1,))[0] == "grows":
                strip = Strip(run, (1,), 1000)
                self.assertEqual([len(strip.objects()), strip.number_for(("left", 0, 999)), strip.cut(500, 999)[0]],
                                 [1003, 1001, [("field", ("core", 1), "next")]])

    def test_objects_that_an_earlier_repeat_left(self):
        # u leads into the list that the first repeat has left; both are none of the strip.
        ahead = [("new", "x", "node"), ("repeat", FAR, [("ifnil", "u", [("new", "u", "node"), ("store", "u", "next", "x"), ("copy", "x", "u")], HEAD)])]
        run = run_of(ahead + [("repeat", FAR, HEAD)])
        self.assertEqual([run.view((2,)).value("u"), run.rhythm((2,))[0]], ["retired", "grows"])
        strip = Strip(run, (2,), 4)
        first = run.rhythm((2,))[1]
        # The last object of the first list belongs to the core; its field leads to a retired one.
        self.assertEqual([strip.number_for(item) for item in strip.objects()], [FAR + number for number in range(1, first + 4)] + [0, FAR, FAR + first + 4])
        self.assertEqual([reference for reference, _ in strip.references() if reference[0] == "variable"], [("variable", 0)])
        self.assertNotIn(("field", ("core", 1), "next"), dict(strip.references()))
        self.assertEqual([strip.cut(0, 3)[0], strip.dead_without([])], [[("field", ("core", 2), "next")], [("core", 0)]])

    def test_many_slots(self):
        body = [("repeat", FAR, [("repeat", 24, HEAD)])]
        run = run_of(body, threshold=12)
        growing = Growing(run, (0,))
        self.assertEqual(growing.count(), 24)
        self.assertEqual(leak_cut(run, (0,))[0], 1)
        self.assertEqual(Strip(run, (0,), 1000).cut(0, 999)[0], [("field", ("core", len(growing.fates()) - 1), "next")])

    def test_a_strip_of_nearly_two_hundred_objects(self):
        inner = [("new", "y", "both"), ("store", "y", "next", "x"), ("ifnil", "x", [], [("store", "x", "back", "y")]), ("copy", "x", "y"), ("clear", "y")]
        run = run_of([("new", "x", "both"), ("copy", "u", "x"), ("repeat", FAR, [("repeat", 48, inner)])], threshold=12)
        self.assertEqual(run.rhythm((2,))[0], "grows")
        self.assertEqual(leak_cut(run, (2,))[0], 2)


class Errors(Base):
    def test_spots_then_periods(self):
        run = run_of([("new", "x", "node"), ("repeat", FAR, HEAD), ("repeat", 4, [("emit", "y")])])
        for value in all_but(lambda value: isinstance(value, tuple) and value in ((0,), (1,), (2,), (3,))):
            self.assertIs(self.raises(InvalidSpot, Strip, run, value, None).spot, value)
            self.assertIs(self.raises(InvalidSpot, leak_cut, run, value).spot, value)
        for spot in ((0,), (1, 3, 0), (3,)):
            self.raises(InvalidSpot, Strip, run, spot, None)
            self.raises(InvalidSpot, leak_cut, run, spot)
        self.assertEqual(self.raises(InvalidArgument, Strip, run, (2,), None).part, "spot")
        self.assertEqual(self.raises(InvalidArgument, leak_cut, run, (2,)).part, "spot")
        failing = run_of([("load", "x", "y", "next"), ("repeat", 3, [])])
        self.raises(NotReached, Strip, failing, (1,), 1)
        for value in all_but(lambda value: type(value) is int and 1 <= value <= 1000):
            self.assertIs(self.raises(InvalidNumber, Strip, run, (1,), value).number, value)
        for value in (0, 1001, True, HUGE):
            self.raises(InvalidNumber, Strip, run, (1,), value)

    def test_items(self):
        strip = Strip(run_of([("new", "x", "node"), ("repeat", FAR, HEAD)]), (1,), 3)
        items = strip.objects()
        for value in all_but(lambda value: isinstance(value, tuple) and value in items):
            self.assertEqual(self.raises(InvalidArgument, strip.number_for, value).part, "item")
        for value in (("left", 0, 3), ("left", 1, 0), ("core", 2), ("old", 0), ("left", False, 0), ("core", True), ["core", 0], ("left", 0, 0.0), ("core", -1)):
            self.assertEqual(self.raises(InvalidArgument, strip.number_for, value).part, "item")

    def test_references(self):
        strip = Strip(run_of([("new", "x", "node"), ("repeat", FAR, HEAD)]), (1,), 3)
        known = [reference for reference, _ in strip.references()]
        for value in all_but(lambda value: isinstance(value, list) and value in ([], [known[0]])):
            self.assertEqual(self.raises(InvalidArgument, strip.dead_without, value).part, "references")
        for value in all_but(lambda value: isinstance(value, tuple) and value in known):
            self.assertEqual(self.raises(InvalidArgument, strip.dead_without, [value]).part, "references")
            self.assertEqual(self.raises(InvalidArgument, strip.dead_without, [known[1], value]).part, "references")
        for value in ([known[0]] * 2, tuple(known), [("variable", False)], [("field", ("core", True), "next")], [("field", ("left", False, 1), "next")],
                      [("variable", 1)], [("field", ("core", 0), "next")], [("field", ["core", 1], "next")]):
            self.assertEqual(self.raises(InvalidArgument, strip.dead_without, value).part, "references")

    def test_cuts(self):
        strip = Strip(run_of([("new", "x", "node"), ("repeat", FAR, HEAD)]), (1,), 3)
        for value in all_but(lambda value: type(value) is int and 0 <= value < 3):
            self.assertIs(self.raises(InvalidNumber, strip.cut, value, value).number, value)
            self.assertIs(self.raises(InvalidNumber, strip.cut, 0, value).number, value)
        self.assertEqual(self.raises(InvalidNumber, strip.cut, 2, 1).number, 1)
        self.assertEqual(self.raises(InvalidNumber, strip.cut, 3, 1).number, 3)
        self.assertEqual(len(strip.cut(2, 2)[0]), 1)

    def test_what_is_returned_is_new(self):
        strip = Strip(run_of([("new", "x", "node"), ("repeat", FAR, HEAD)]), (1,), 3)
        told = [strip.objects(), strip.references(), strip.cut(0, 2), strip.dead_without([("variable", 0)])]
        strip.objects().clear()
        strip.references().clear()
        strip.cut(0, 2)[0].clear()
        strip.dead_without([]).append(1)
        self.assertEqual([strip.objects(), strip.references(), strip.cut(0, 2), strip.dead_without([("variable", 0)])], told)
        self.assertGreater(len(odd_values()), 0)


class Played(Base):
    def test_growth_of_programs_by_chance_has_a_cut(self):
        for seed in range(20):
            played = play(growing_program(random.Random(900 + seed), 10))
            for one in played[2] if played else []:
                count, margin = leak_cut(one.run, one.spot)
                self.assertEqual(len(Strip(one.run, one.spot, 3 * margin).cut(margin, 2 * margin)[0]), count)
                self.assertGreater(count, 0)


if __name__ == "__main__":
    unittest.main()
