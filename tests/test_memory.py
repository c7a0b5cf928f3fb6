"""The memory that a run is about, by small programs reckoned by hand: [16] to [21], and what views tell of it."""

import unittest

from roundheap.programs import Program
from roundheap.runs import Run

NODE = ("node", 1, ["next"], False)
PAIR = ("pair", 2, ["left", "right"], True)
ALL = ["x", "y", "z", "u", "v"]


def run_of(body, classes=(NODE, PAIR), threshold=12, radices=(), functions=(), weak=("w", "e"), variables=tuple(ALL)):
    return Run(Program(list(classes), body, variables=list(variables), weak=list(weak), threshold=threshold,
                       radices=list(radices), functions=list(functions)))


def last_view(*arguments, **parts):
    run = run_of(*arguments, **parts)
    return run.view(run.last_spot())


def log_of(view):
    return view.log().entries(0, view.log().length())


def new(name, sort="node"):
    return ("new", name, sort)


class Objects(unittest.TestCase):
    def test_a_new_object(self):
        view = last_view([new("x"), new("y", "pair"), new("z")])
        self.assertEqual(view.row(0), ("node", "node", {"next": None}, 0, (1, 0)))
        self.assertEqual(view.row(1), ("pair", "pair", {"left": None, "right": None}, 0, (2, 0)))
        self.assertEqual(view.row(2)[4], (1, 1))
        self.assertEqual([view.objects(), view.news(), view.units(), view.count()], [[0, 1, 2], 3, 4, 3])
        self.assertEqual(view.variables(), {"x": 0, "y": 1, "z": 2, "u": None, "v": None})
        self.assertEqual(view.weak(), {"w": None, "e": None})
        self.assertEqual([view.pool(size) for size in (1, 2, 3, 8)], [([], 2), ([], 1), ([], 0), ([], 0)])

    def test_what_was_freed_last_is_taken_first(self):
        body = [new("x"), new("y"), new("z"), ("clear", "x"), ("clear", "y"), new("x"), new("y")]
        view = last_view(body[:5])
        self.assertEqual(view.pool(1), ([1, 0], 3))
        view = last_view(body)
        self.assertEqual([view.address(number) for number in (2, 3, 4)], [(1, 2), (1, 1), (1, 0)])

    def test_free_is_as_short_as_possible(self):
        view = last_view([new("x"), new("y"), new("z"), ("clear", "z"), ("clear", "y")])
        self.assertEqual(view.pool(1), ([], 1))
        view = last_view([new("x"), new("y"), new("z"), ("clear", "y"), ("clear", "z")])
        self.assertEqual(view.pool(1), ([2, 1], 3))

    def test_new_takes_its_address_before_the_old_object_is_let_go(self):
        view = last_view([new("x"), new("x"), new("x")])
        self.assertEqual([view.objects(), view.address(2), view.pool(1)], [[2], (1, 0), ([], 1)])
        self.assertEqual(last_view([new("x"), new("x")]).pool(1), ([0], 2))

    def test_pools_of_each_size_are_apart(self):
        view = last_view([new("x"), new("y", "pair"), ("clear", "x"), new("z", "pair")])
        self.assertEqual([view.address(1), view.address(2), view.pool(1)], [(2, 0), (2, 1), ([], 0)])


class Freeing(unittest.TestCase):
    def test_the_new_reference_is_counted_first(self):
        view = last_view([new("x", "pair"), ("copy", "x", "x")])
        self.assertEqual([view.objects(), log_of(view)], [[0], []])
        view = last_view([new("x"), new("y"), ("store", "x", "next", "y"), ("clear", "y"), ("load", "x", "x", "next")])
        self.assertEqual([view.objects(), view.value("x"), view.pool(1)], [[1], 1, ([0], 2)])
        view = last_view([new("x"), new("y"), ("store", "x", "next", "y"), ("store", "x", "next", "y"), ("clear", "y")])
        self.assertEqual(view.objects(), [0, 1])

    def test_order_of_freeing(self):
        classes = [("pair", 2, ["left", "right"], True)]
        body = [new("x", "pair"), ("tag", "x", "root"), new("y", "pair"), ("tag", "y", "one"), ("store", "x", "left", "y"),
                new("z", "pair"), ("tag", "z", "two"), ("store", "x", "right", "z"), new("u", "pair"), ("tag", "u", "leaf"),
                ("store", "y", "right", "u"), ("clear", "u"), ("clear", "y"), ("clear", "z"), ("clear", "x")]
        view = last_view(body, classes=classes)
        self.assertEqual(log_of(view), [("final", "root"), ("final", "one"), ("final", "leaf"), ("final", "two")])
        # leaf, one, two, root: the last one is in front.
        self.assertEqual(view.pool(2), ([0, 2, 1], 3))

    def test_weak_variables_become_nil(self):
        body = [new("x"), ("weak", "w", "x"), new("y"), ("weak", "e", "y"), ("clear", "x")]
        self.assertEqual(last_view(body[:4]).weak(), {"w": 0, "e": 1})
        self.assertEqual(last_view(body).weak(), {"w": None, "e": 1})
        self.assertEqual(last_view(body + [("get", "z", "w"), ("get", "u", "e")]).variables(),
                         {"x": None, "y": 1, "z": None, "u": 1, "v": None})

    def test_weak_variables_are_no_references(self):
        view = last_view([new("x"), ("weak", "w", "x"), ("weak", "e", "x"), new("x")])
        self.assertEqual([view.objects(), view.weak()], [[1], {"w": None, "e": None}])

    def test_a_row_of_two_hundred_is_freed(self):
        inner = [new("y"), ("store", "y", "next", "x"), ("copy", "x", "y")]
        body = [("ifnil", "z", [("repeat", 200, inner)], []), ("clear", "y"), ("clear", "x")]
        view = last_view(body, classes=[("node", 1, ["next"], True)])
        self.assertEqual([view.objects(), view.log().length(), view.pool(1)[1], view.peak()], [[], 200, 200, (200, 200)])
        self.assertEqual(view.pool(1)[0], [199 - k for k in range(200)])


class Statements(unittest.TestCase):
    def test_emit_and_tag(self):
        view = last_view([("emit", "x"), new("x"), ("emit", "x"), ("tag", "x", "new"), ("emit", "x")])
        self.assertEqual(log_of(view), [("emit", None), ("emit", "node"), ("emit", "new")])
        self.assertEqual(view.row(0)[:2], ("node", "new"))

    def test_what_fails(self):
        for statement in (("load", "x", "y", "next"), ("store", "y", "next", "x"), ("wipe", "y", "next"), ("tag", "y", "t")):
            run = run_of([new("x"), statement, new("z")])
            self.assertEqual([run.ended(), run.last_spot(), run.work()], [("failed", (1,)), (1,), 2])
            view = run.view((1,))
            self.assertEqual([view.objects(), view.steps(), view.value("x")], [[0], 1, 0])
        for statement in (("load", "x", "y", "left"), ("store", "y", "left", "x"), ("wipe", "y", "left")):
            run = run_of([new("x"), new("y"), ("weak", "w", "x"), statement, ("collect", 0)])
            self.assertEqual([run.ended(), run.view((3,)).objects()], [("failed", (3,)), [0, 1]])

    def test_wipe_and_store_nil(self):
        body = [new("x"), new("y"), ("store", "x", "next", "y"), ("clear", "y")]
        self.assertEqual(last_view(body + [("wipe", "x", "next")]).objects(), [0])
        self.assertEqual(last_view(body + [("store", "x", "next", "z")]).objects(), [0])
        self.assertEqual(last_view(body + [("wipe", "x", "next"), ("wipe", "x", "next")]).row(0)[2], {"next": None})

    def test_ifnil_and_ifsame(self):
        one, other = [("tag", "v", "one")], [("tag", "v", "other")]
        cases = [([], ("ifnil", "x"), "one"), ([new("x")], ("ifnil", "x"), "other"),
                 ([], ("ifsame", "x", "y"), "one"), ([new("x")], ("ifsame", "x", "y"), "other"),
                 ([new("x"), ("copy", "y", "x")], ("ifsame", "x", "y"), "one"),
                 ([new("x"), new("y")], ("ifsame", "x", "y"), "other"), ([new("x")], ("ifsame", "x", "x"), "one")]
        for ahead, test, tag in cases:
            view = last_view([new("v")] + ahead + [test + (one, other)])
            self.assertEqual(view.row(view.value("v"))[1], tag)


RING = [new("x"), ("store", "x", "next", "x"), ("clear", "x")]


class Collections(unittest.TestCase):
    def test_levels_of_numbered_collections(self):
        # With radices 2 and 3 the level of collection n is 2 if 6 divides n, 1 if 2 does.
        ages = []
        for many in range(1, 7):
            view = last_view([new("v")] * many, threshold=1, radices=[2, 3], classes=[NODE])
            ages.append(view.row(many - 1)[3])
            self.assertEqual(view.collections(), many)
        self.assertEqual(ages, [1, 2, 1, 2, 1, 2])
        ages = [last_view([new("v")] + [new("u")] * many, threshold=1, radices=[2, 3], classes=[NODE]).row(0)[3]
                for many in range(7)]
        self.assertEqual(ages, [1, 2, 2, 2, 2, 2, 2])
        for many, number in ((1, 0), (2, 1), (3, 1), (4, 2)):
            self.assertEqual(last_view([new("v")] * many, threshold=2).collections(), number)

    def test_collect_has_no_number_and_goes_so_far(self):
        for level, left in ((0, []), (1, []), (2, [])):
            view = last_view(RING + [("collect", level)], threshold=2, radices=[2, 3])
            self.assertEqual([view.objects(), view.collections()], [left, 0])
        aged = RING[:2] + [("collect", 0), ("clear", "x")]
        for level, left in ((0, [0]), (1, []), (2, [])):
            self.assertEqual(last_view(aged + [("collect", level)], threshold=2, radices=[2, 3]).objects(), left)
        aged = RING[:2] + [("collect", 1), ("clear", "x")]
        for level, left in ((0, [0]), (1, [0]), (2, [])):
            self.assertEqual(last_view(aged + [("collect", level)], threshold=2, radices=[2, 3]).objects(), left)

    def test_generations_behind(self):
        body = [new("x"), ("collect", 0), new("y"), ("collect", 1), new("z"), ("collect", 0)]
        view = last_view(body, threshold=4, radices=[2])
        self.assertEqual([view.row(number)[3] for number in range(3)], [1, 1, 1])
        view = last_view(body, threshold=2, radices=[2, 3])
        self.assertEqual([view.row(number)[3] for number in range(3)], [2, 2, 1])
        view = last_view([new("x"), ("collect", 2), ("collect", 0)], threshold=2, radices=[2, 3])
        self.assertEqual(view.row(0)[3], 2)

    def test_an_older_object_keeps_others(self):
        # A dead ring in generation 1 refers to a ring in generation 0.
        old = [new("x", "pair"), ("store", "x", "left", "x"), ("collect", 0), new("y"), ("store", "y", "next", "y"),
               ("store", "x", "right", "y"), ("clear", "y"), ("clear", "x")]
        self.assertEqual(last_view(old + [("collect", 0)], threshold=3, radices=[2, 2]).objects(), [0, 1])
        view = last_view(old + [("collect", 1)], threshold=3, radices=[2, 2])
        self.assertEqual([view.objects(), log_of(view)], [[], [("final", "pair")]])

    def test_order_of_a_collection(self):
        # All references among the lost ones end first; then they are freed in the order of their numbers.
        classes = [("pair", 1, ["left", "right"], True)]
        body = [new("x", "pair"), ("tag", "x", "a"), new("y", "pair"), ("tag", "y", "b"), new("z", "pair"), ("tag", "z", "c"),
                ("store", "x", "left", "z"), ("store", "z", "left", "y"), ("store", "y", "left", "x"),
                ("clear", "x"), ("clear", "y"), ("clear", "z"), ("collect", 0)]
        view = last_view(body, classes=classes)
        self.assertEqual([log_of(view), view.pool(1)], [[("final", "a"), ("final", "b"), ("final", "c")], ([2, 1, 0], 3)])

    def test_a_collection_frees_what_the_lost_ones_alone_refer_to(self):
        body = [new("u"), ("tag", "u", "old"), ("collect", 1), new("x", "pair"), ("store", "x", "left", "x"),
                ("store", "x", "right", "u"), ("clear", "u"), ("clear", "x"), ("collect", 0)]
        view = last_view(body, threshold=3, radices=[2, 2], classes=[("node", 1, ["next"], True), PAIR])
        self.assertEqual([view.objects(), log_of(view)], [[], [("final", "pair"), ("final", "old")]])

    def test_a_dead_object_may_come_back(self):
        body = RING[:2] + [("weak", "w", "x"), ("clear", "x"), ("get", "y", "w"), ("collect", 0)]
        self.assertEqual(last_view(body).objects(), [0])
        self.assertEqual(last_view(body[:4] + [("collect", 0), ("get", "y", "w")]).variables()["y"], None)

    def test_the_collection_stands_behind_new(self):
        body = RING + [new("y")]
        self.assertEqual(last_view(body, threshold=2).objects(), [1])
        # What the variable had is let go ahead of the collection.
        view = last_view([new("x"), ("store", "x", "next", "x"), new("x")], threshold=2)
        self.assertEqual([view.objects(), view.address(1), view.pool(1)], [[1], (1, 1), ([0], 2)])

    def test_variables_of_open_calls_keep(self):
        functions = [("f", ["a"], ["b"], [new("b"), ("store", "b", "next", "b"), ("collect", 0), ("clear", "b"), ("collect", 0)], None)]
        run = run_of([new("x"), ("call", None, "f", ["x"])], functions=functions)
        self.assertEqual([run.view((1, 3)).objects(), run.view((1, 5)).objects()], [[0, 1], [0]])


class Calls(unittest.TestCase):
    FINAL = ("node", 1, ["next"], True)

    def test_parameters_locals_and_result(self):
        functions = [("f", ["a", "b"], ["c"], [("copy", "c", "b")], "c")]
        run = run_of([new("x"), new("y"), ("call", "z", "f", ["x", "y"])], functions=functions)
        self.assertEqual(run.view((2, 0)).variables(), {"a": 0, "b": 1, "c": None})
        self.assertEqual(run.view((2, 1)).variables(), {"a": 0, "b": 1, "c": 1})
        self.assertEqual(run.view((3,)).variables(), {"x": 0, "y": 1, "z": 1, "u": None, "v": None})

    def test_result_first_then_parameters_then_locals(self):
        body = [("new", "a", "node"), ("tag", "a", "a"), ("new", "b", "node"), ("tag", "b", "b"), ("new", "c", "node"),
                ("tag", "c", "c"), ("new", "d", "node"), ("tag", "d", "d")]
        functions = [("f", ["b", "a"], ["d", "c"], body, "c")]
        view = last_view([new("x"), ("tag", "x", "x"), ("call", "x", "f", ["y", "z"])], functions=functions, classes=[self.FINAL])
        self.assertEqual(log_of(view), [("final", "x"), ("final", "b"), ("final", "a"), ("final", "d")])
        self.assertEqual([view.value("x"), view.row(3)[1], view.pool(1)], [3, "c", ([4, 1, 2, 0], 5)])

    def test_a_result_of_no_variable_is_let_go(self):
        functions = [("f", [], ["c"], [("new", "c", "node")], "c")]
        view = last_view([("call", None, "f", []), ("call", "x", "f", [])], functions=functions, classes=[self.FINAL])
        self.assertEqual([view.objects(), log_of(view)], [[1], [("final", "node")]])

    def test_a_result_is_counted_before_it_is_let_go(self):
        functions = [("f", ["a"], [], [], "a")]
        view = last_view([new("x"), ("call", "x", "f", ["x"])], functions=functions, classes=[self.FINAL])
        self.assertEqual([view.objects(), log_of(view)], [[0], []])

    def test_calls_within_calls(self):
        functions = [("f", ["a"], [], [("tag", "a", "f")], "a"), ("g", ["a"], ["b"], [("call", "b", "f", ["a"]), ("emit", "b")], "b")]
        run = run_of([new("x"), ("call", "y", "g", ["x"]), ("emit", "y")], functions=functions)
        self.assertEqual(run.view((1, 0, 0)).variables(), {"a": 0})
        self.assertEqual(run.view((1, 1)).variables(), {"a": 0, "b": 0})
        self.assertEqual(log_of(run.view((3,))), [("emit", "f"), ("emit", "f")])

    def test_a_variable_of_the_program_is_not_known_in_a_function(self):
        functions = [("f", [], ["x"], [("new", "x", "node"), ("weak", "w", "x")], None)]
        run = run_of([new("x"), ("call", None, "f", [])], functions=functions)
        self.assertEqual([run.view((1, 2)).value("x"), run.view((1, 2)).value("w")], [1, 1])
        self.assertEqual([run.view((2,)).value("x"), run.view((2,)).value("w")], [0, None])


class Spots(unittest.TestCase):
    def test_spots_at_the_ends_of_blocks(self):
        functions = [("f", ["a"], [], [("tag", "a", "t")], "a")]
        body = [new("x"), ("ifnil", "y", [("call", "y", "f", ["x"])], []), ("repeat", 2, [("clear", "x")]), ("ifsame", "x", "y", [], [("clear", "y")])]
        run = run_of(body, functions=functions)
        told = [((0,), 0), ((1,), 1), ((1, 0, 0), 1), ((1, 0, 0, 0), 1), ((1, 0, 0, 1), 2), ((1, 0, 1), 2), ((2,), 2), ((2, 0, 0), 2),
                ((2, 0, 1), 3), ((2, 1, 0), 3), ((2, 1, 1), 4), ((3,), 4), ((3, 1, 0), 4), ((3, 1, 1), 5), ((4,), 5)]
        for spot, steps in told:
            self.assertEqual(run.view(spot).steps(), steps, spot)
        self.assertEqual([run.view((1, 0, 0, 1)).variables(), run.view((1, 0, 1)).value("y")], [{"a": 0}, 0])


if __name__ == "__main__":
    unittest.main()
