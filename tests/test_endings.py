"""What happens if references end, and which objects wait for a collection: [76] and [77]."""

import random
import unittest

from heaps import leading, reached, some_view
from kinds import all_but
from roundheap.comparing import done_block
from roundheap.endings import ended, waiting
from roundheap.errors import InvalidArgument
from roundheap.keepers import references
from roundheap.memory import copied_memory
from roundheap.programs import Program
from roundheap.runs import Run, View
from roundheap.sights import Sight

FAR = 10 ** 30
NODE = ("node", 1, ["next"], False)


def run_of(body, classes=(NODE,), variables=("x", "y", "z"), threshold=12, radices=(), functions=()):
    return Run(Program(list(classes), body, variables=list(variables), weak=[], threshold=threshold, radices=list(radices), functions=list(functions)))


def plain_ended(view, threshold, radices, wanted):
    """What [76] says, in the plainest way: every count is taken anew."""
    left = dict(references(view))
    freed, freeing = [], []
    def let_go(reference):
        target = left.pop(reference, None)
        if target is None or target in left.values() or target in freeing:
            return
        freeing.append(target)
        for name in view.row(target)[2]:
            let_go(("field", target, name))
        freed.append(target)
    for reference in wanted:
        let_go(reference)
    live = reached(left)
    waiters = []
    for number in view.objects():
        if number not in live and number not in freed:
            level = max(view.row(other)[3] for other in leading(left, [number]))
            stride = 1
            for radix in radices[:level]:
                stride *= radix
            count = view.collections() + 1
            while count % stride:
                count += 1
            waiters.append((number, level, count))
    return freed, waiters


class Base(unittest.TestCase):
    def raises(self, error, call, *arguments):
        with self.assertRaises(error) as caught:
            call(*arguments)
        self.assertIs(type(caught.exception), error)
        return caught.exception


class ByChance(Base):
    def test_small_views(self):
        rng = random.Random(1)
        waited, several = 0, 0
        for _ in range(150):
            view = some_view(rng, 9)
            world = view._world
            rows = [reference for reference, _ in references(view)]
            self.assertEqual(waiting(view), plain_ended(view, world.pace, world.bases, [])[1])
            for _ in range(6):
                wanted = rng.sample(rows, rng.randint(0, min(5, len(rows))))
                told = ended(view, wanted)
                self.assertEqual(told, plain_ended(view, world.pace, world.bases, wanted))
                waited += len(told[1]) > 0
                several += len(told[0]) > 1
            self.assertEqual(ended(view, []), ([], waiting(view)))
        self.assertTrue(waited > 50 and several > 50)

    def test_the_memory_does_the_same(self):
        rng = random.Random(2)
        done = 0
        while done < 40:
            view = some_view(rng, 9)
            if len(view.variables()) < 4:
                continue
            done += 1
            names = list(view.variables())
            rng.shuffle(names)
            names = [name for name in names if view.value(name) is not None][:3]
            wanted = [("variable", 0, list(view.variables()).index(name)) for name in names]
            freed, _ = ended(view, wanted)
            # The addresses go to the pools in this order: each pool has the last one in front.
            body = [("clear", name) for name in names]
            for size in (1, 2, 3):
                homes = [view.address(number)[1] for number in freed if view.address(number)[0] == size]
                free, fresh = view.pool(size)
                free = homes[::-1] + free
                while free and free[-1] == fresh - 1:
                    free.pop()
                    fresh -= 1
                self.assertEqual(behind(view, body).pool(size), (free, fresh))
            self.assertEqual(sorted(set(view.objects()) - set(freed)), behind(view, body).objects())

    def test_the_collection_that_is_told_frees(self):
        rng = random.Random(3)
        freed_in_time = 0
        for _ in range(60):
            view = some_view(rng, 8)
            pace = view._world.pace
            if len(view.variables()) < 4:
                continue
            told = waiting(view)
            # Objects are made and let go at once, in a block that changes no references.
            for number, _, collection in told:
                ahead = collection * pace - view.news() - 1
                block = [("new", "x", "node"), ("clear", "x")]
                if view.value("x") is not None:
                    continue
                early = behind(view, block * ahead) if ahead >= 0 else view
                late = behind(view, block * (ahead + 1))
                self.assertNotIn(number, late.objects())
                freed_in_time += number in early.objects()
        self.assertGreater(freed_in_time, 5)


def behind(view, block):
    """The view behind a block that is done from a view on."""
    course = done_block(Sight(view._world, copied_memory(view._memory), []), block)
    return View(Sight(view._world, course.doer.tape.memory, []))


class ByHand(Base):
    def test_order_of_freeing(self):
        classes = [("pair", 1, ["left", "right"], False)]
        body = [("new", "x", "pair"), ("new", "y", "pair"), ("store", "x", "left", "y"), ("new", "z", "pair"), ("store", "x", "right", "z"),
                ("new", "y", "pair"), ("load", "z", "x", "left"), ("store", "z", "right", "y"), ("clear", "y"), ("clear", "z")]
        view = run_of(body, classes=classes).view((10,))
        self.assertEqual(ended(view, [("variable", 0, 0)]), ([3, 1, 2, 0], []))
        self.assertEqual(ended(view, [("field", 0, "right"), ("field", 0, "left"), ("variable", 0, 0)]), ([2, 3, 1, 0], []))
        self.assertEqual(ended(view, [("field", 1, "right")]), ([3], []))

    def test_what_has_ended_already_is_passed_over(self):
        view = run_of([("new", "x", "node"), ("new", "y", "node"), ("store", "x", "next", "y"), ("clear", "y")]).view((4,))
        self.assertEqual(ended(view, [("variable", 0, 0), ("field", 0, "next")]), ([1, 0], []))
        self.assertEqual(ended(view, [("field", 0, "next"), ("variable", 0, 0)]), ([1, 0], []))

    def test_levels_and_collections(self):
        # A ring in generation 1 and an object of generation 0 that it keeps.
        body = [("new", "x", "node"), ("store", "x", "next", "x"), ("new", "y", "node"), ("new", "y", "node"), ("store", "x", "next", "y"), ("store", "y", "next", "x")]
        run = run_of(body, threshold=2, radices=[2, 3])
        view = run.view((6,))
        self.assertEqual([view.row(0)[3], view.row(2)[3], view.collections()], [1, 0, 1])
        self.assertEqual(ended(view, [("variable", 0, 0), ("variable", 0, 1)]), ([], [(0, 1, 2), (2, 1, 2)]))
        run = run_of(body + [("collect", 2)], threshold=2, radices=[2, 3])
        view = run.view((7,))
        self.assertEqual(ended(view, [("variable", 0, 1), ("variable", 0, 0)]), ([], [(0, 2, 6), (2, 2, 6)]))
        self.assertEqual(waiting(view), [])

    def test_an_object_without_a_path_that_a_circle_leads_to(self):
        classes = [("pair", 1, ["left", "right"], False)]
        body = [("new", "x", "pair"), ("store", "x", "left", "x"), ("new", "y", "pair"), ("store", "x", "right", "y"), ("clear", "y"), ("clear", "x")]
        view = run_of(body, classes=classes, threshold=5).view((6,))
        self.assertEqual(waiting(view), [(0, 0, 1), (1, 0, 1)])
        self.assertEqual(ended(view, [("field", 0, "right")]), ([1], [(0, 0, 1)]))
        self.assertEqual(ended(view, [("field", 0, "left")]), ([1, 0], []))

    def test_variables_of_all_open_calls(self):
        functions = [("f", ["a"], ["b"], [("new", "b", "node"), ("emit", "b")], None)]
        view = run_of([("new", "x", "node"), ("call", None, "f", ["x"])], functions=functions).view((1, 1))
        self.assertEqual(ended(view, [("variable", 1, 1), ("variable", 0, 0)]), ([1], []))
        self.assertEqual(ended(view, [("variable", 0, 0), ("variable", 1, 0)]), ([0], []))

    def test_far_views(self):
        turn = [("new", "y", "node"), ("store", "y", "next", "y"), ("new", "x", "node"), ("store", "x", "next", "y"), ("clear", "y")]
        view = run_of([("repeat", FAR, turn)], threshold=12, radices=[]).view((0, 10 ** 29, 5))
        told = waiting(view)
        self.assertTrue(told and all(row[1:] == (0, view.collections() + 1) for row in told))
        freed, more = ended(view, [("variable", 0, 0)])
        self.assertEqual([freed, len(more)], [[view.news() - 1], len(told) + 1])

    def test_a_long_row(self):
        links = [("new", "y", "node"), ("store", "y", "next", "x"), ("copy", "x", "y")]
        view = run_of([("ifnil", "x", [("repeat", 200, links)], []), ("clear", "y")]).view((2,))
        self.assertEqual(ended(view, [("variable", 0, 0)]), (list(range(200)), []))


class Errors(Base):
    def test_views_with_retired_objects(self):
        head = [("new", "y", "node"), ("store", "y", "next", "x"), ("copy", "x", "y")]
        run = run_of([("repeat", FAR, head)], threshold=1)
        for call in (waiting, lambda view: ended(view, None)):
            self.assertEqual(self.raises(InvalidArgument, call, run.view((1,))).part, "view")
        self.assertEqual(waiting(run.view((0, run.rhythm((0,))[3], 3))), [])

    def test_references(self):
        view = run_of([("new", "x", "node"), ("store", "x", "next", "x")]).view((2,))
        one, two = ("variable", 0, 0), ("field", 0, "next")
        for value in all_but(lambda value: isinstance(value, list) and value in ([], [one])):
            self.assertEqual(self.raises(InvalidArgument, ended, view, value).part, "references")
        for value in all_but(lambda value: isinstance(value, tuple) and value in (one, two)):
            self.assertEqual(self.raises(InvalidArgument, ended, view, [value]).part, "references")
            self.assertEqual(self.raises(InvalidArgument, ended, view, [one, value]).part, "references")
        for value in ([one, one], (one, two), [("variable", 0, False)], [("field", False, "next")], [("variable", 0, 1)], [["variable", 0, 0]], {one: 1},
                      [("variable", 1, 0)], [("field", 1, "next")], [("field", 0, "left")]):
            self.assertEqual(self.raises(InvalidArgument, ended, view, value).part, "references")

    def test_nothing_is_changed(self):
        view = run_of([("new", "x", "node"), ("store", "x", "next", "x")]).view((2,))
        wanted = [("variable", 0, 0)]
        freed, waiters = ended(view, wanted)
        freed.append(1)
        waiters.clear()
        waiting(view).append(1)
        self.assertEqual([ended(view, wanted), wanted, waiting(view)], [([], [(0, 0, 1)]), [("variable", 0, 0)], []])


class Facts(Base):
    def test_what_waits_is_on_a_circle_or_a_circle_leads_to_it(self):
        rng = random.Random(9)
        for _ in range(60):
            view = some_view(rng, 8)
            targets = dict(references(view))
            circles = [number for number in view.objects()
                       if any(number in leading(targets, [reference[1]]) for reference, target in targets.items() if target == number and reference[0] == "field")]
            for number, _, _ in waiting(view):
                self.assertTrue(leading(targets, [number]) & set(circles))


if __name__ == "__main__":
    unittest.main()
