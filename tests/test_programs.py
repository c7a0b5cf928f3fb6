"""Programs: their parts, the first part that is invalid, what is kept and what is returned: [2], [3], [5] to [10]."""

import copy
import unittest

from roundheap.errors import InvalidProgram
from roundheap.programs import Program
from kinds import (
    CLASSES, HUGE, PARTS, all_but, is_fine_name, is_list_of_names, is_plain_integer, make, odd_values,
)

FUNCTION = ("f", ["a", "b"], ["c"], [("copy", "c", "a"), ("new", "b", "node")], "c")
BODY = [("call", "x", "f", ["x", "y"]), ("repeat", 3, [("ifnil", "x", [("clear", "y")], [])])]


class Base(unittest.TestCase):
    def refused(self, part, at, **parts):
        with self.assertRaises(InvalidProgram) as caught:
            make(**parts)
        self.assertEqual((caught.exception.part, caught.exception.at), (part, at), parts.keys())


class Classes(Base):
    def test_least_and_most(self):
        one = [("a", 1, [], False)]
        six = [(name, 8, ["f", "g", "h"], True) for name in "abcdef"]
        self.assertEqual(make(classes=one).classes(), one)
        self.assertEqual(make(classes=six).classes(), six)
        self.refused("classes", -1, classes=[])
        self.refused("classes", -1, classes=six + [("g", 1, [], False)])

    def test_names(self):
        for name in ("a", "z", "abcdefgh", "class", "nil"):
            self.assertEqual(make(classes=[(name, 1, [], False)]).classes()[0][0], name)
        for name in ("", "abcdefghi", "A", "a1", "a_b", "a ", "\u00e9", "\u0430"):
            self.refused("classes", 0, classes=[(name, 1, [], False)])
        self.refused("classes", 2, classes=[("a", 1, [], False), ("b", 1, [], False), ("a", 2, [], True)])

    def test_sizes(self):
        for size in (1, 8):
            self.assertEqual(make(classes=[("a", size, [], False)]).classes()[0][1], size)
        for size in (0, 9, -1, HUGE, -HUGE, True, False, 1.0, "1", None, [1]):
            self.refused("classes", 0, classes=[("a", size, [], False)])

    def test_fields(self):
        for fields in ([], ["f"], ["f", "g", "h"], ["a"]):
            self.assertEqual(make(classes=[("a", 1, fields, False)]).classes()[0][2], fields)
        for fields in (["f", "f"], ["f", "g", "h", "i"], ["F"], [1], [[]], ("f",), None, "f", {"f": 1}, [None]):
            self.refused("classes", 0, classes=[("a", 1, fields, False)])

    def test_final(self):
        for final in (0, 1, None, "", [], 1.0):
            self.refused("classes", 0, classes=[("a", 1, [], final)])

    def test_form_of_an_item(self):
        good = ("a", 1, [], False)
        for item in (list(good), good[:3], good + (1,), ()):
            self.refused("classes", 1, classes=[("b", 1, [], False), item, ("b", 1, [], False)])

    def test_any_kind(self):
        for value in odd_values():
            at = 0 if isinstance(value, list) and len(value) > 0 else -1
            self.refused("classes", at, classes=value)
            self.refused("classes", 0, classes=[value])
            for at in range(3):
                item = list(CLASSES[0])
                item[at] = value
                fine = (at == 0 and is_fine_name(value) or at == 1 and is_plain_integer(value) and 1 <= value <= 8
                        or at == 2 and is_list_of_names(value))
                if not fine:
                    self.refused("classes", 1, classes=[("good", 1, [], False), tuple(item)])


class Names(Base):
    def test_variables(self):
        eight = list("abcdefgh")
        self.assertEqual(make(variables=["a"]).variables(), ["a"])
        self.assertEqual(make(variables=eight).variables(), eight)
        for value in ([], list("abcdefghi"), ("x",), "x", None, {"x": 1}):
            self.refused("variables", -1, variables=value)
        self.refused("variables", 2, variables=["x", "y", "x", "y"])
        self.refused("variables", 1, variables=["x", 1, 2])

    def test_weak(self):
        self.assertEqual(make(weak=[]).weak(), [])
        self.assertEqual(make(weak=list("abcd")).weak(), list("abcd"))
        for value in (list("abcde"), ("w",), "w", None, {}):
            self.refused("weak", -1, weak=value)
        self.refused("weak", 1, weak=["w", "w"])
        self.refused("weak", 1, weak=["w", "y", "x"])
        self.refused("weak", 0, weak=["W"])

    def test_names_of_other_parts_are_free(self):
        made = make(classes=[("x", 1, ["x"], False)], weak=["w"], functions=[("x", ["x"], ["y"], [], "x")])
        self.assertEqual(made.variables(), ["x", "y"])

    def test_any_kind(self):
        for value in odd_values():
            if not isinstance(value, list):
                self.refused("variables", -1, variables=value)
                self.refused("weak", -1, weak=value)
            elif not is_list_of_names(value):
                at = 1 if is_fine_name(value[0]) else 0
                self.refused("variables", at, variables=value)
                self.refused("weak", at, weak=value, variables=["y"])
            if not is_fine_name(value):
                self.refused("variables", 1, variables=["a", value])
                self.refused("weak", 1, weak=["a", value])


class Numbers(Base):
    def test_threshold(self):
        for value in (1, 12):
            self.assertEqual(make(threshold=value, radices=[]).threshold(), value)
        for value in (0, 13, -1, HUGE, True):
            self.refused("threshold", -1, threshold=value, radices=[])
        for value in all_but(lambda value: is_plain_integer(value) and 1 <= value <= 12):
            self.refused("threshold", -1, threshold=value, radices=[])

    def test_radices(self):
        for threshold, radices in ((1, []), (12, []), (1, [12]), (1, [2, 2, 3]), (3, [2, 2]), (6, [2])):
            self.assertEqual(make(threshold=threshold, radices=radices).radices(), radices)
        self.refused("radices", 0, threshold=12, radices=[2])
        self.refused("radices", 2, threshold=3, radices=[2, 2, 2, 2])
        self.refused("radices", 2, threshold=1, radices=[2, 2, 4])
        self.refused("radices", 0, threshold=1, radices=[13])
        self.refused("radices", 0, threshold=1, radices=[HUGE])
        self.refused("radices", 1, threshold=1, radices=[2, 1])
        self.refused("radices", 0, threshold=1, radices=[0])
        self.refused("radices", 0, threshold=1, radices=[-HUGE])
        self.refused("radices", 0, threshold=1, radices=[True])
        self.refused("radices", 1, threshold=1, radices=[12, 2, None])
        self.refused("radices", 3, threshold=1, radices=[2] * 100000)

    def test_radices_of_any_kind(self):
        for value in odd_values():
            if not isinstance(value, list):
                self.refused("radices", -1, radices=value)
            elif len(value) > 0:
                self.refused("radices", 0, radices=value)
            if not is_plain_integer(value) or value < 2 or value > 6:
                self.refused("radices", 1, threshold=1, radices=[2, value])


class Functions(Base):
    def test_least_and_most(self):
        four = [(name, [], [], [], None) for name in "abcd"]
        self.assertEqual(make(functions=four).functions(), four)
        self.refused("functions", -1, functions=four + [("e", [], [], [], None)])
        for value in all_but(lambda value: isinstance(value, list)):
            self.refused("functions", -1, functions=value)

    def test_heads(self):
        good = ("f", ["a"], ["b"], [], "a")
        self.assertEqual(make(functions=[good]).functions(), [good])
        bad = [
            list(good), good[:4], good + (None,), (), ("F",) + good[1:], (1,) + good[1:], ([],) + good[1:],
            ("f", ("a",), [], [], None), ("f", [], ("a",), [], None), ("f", ["a"], ["a"], [], None),
            ("f", ["a", "a"], [], [], None), ("f", ["w"], [], [], None), ("f", [], ["w"], [], None),
            ("f", list("abcde"), list("fghi"), [], None), ("f", ["a"], ["b"], [], "x"), ("f", ["a"], [], [], ["a"]),
            ("f", ["a"], [], [], ""), ("f", ["a"], [], [], False), ("f", ["a"], [1], [], None),
        ]
        for item in bad:
            self.refused("functions", (0,), functions=[item])
            self.refused("functions", (1,), functions=[("g", [], [], [], None), item, 1])
        self.refused("functions", (1,), functions=[good, good])
        for value in odd_values():
            self.refused("functions", (0,), functions=[value])
            for at in (1, 2, 4):
                item = list(good)
                item[at] = value
                if not (value is None if at == 4 else is_list_of_names(value)):
                    self.refused("functions", (0,), functions=[tuple(item)])

    def test_eight_variables(self):
        for parameters, inner in (("abcdefgh", ""), ("", "abcdefgh"), ("abcd", "efgh")):
            item = ("f", list(parameters), list(inner), [], "h")
            self.assertEqual(make(functions=[item]).functions(), [item])

    def test_a_head_comes_ahead_of_its_body_and_behind_earlier_bodies(self):
        broken = ("f", [], [], [("clear", "x")], None)
        self.refused("functions", (0, 0), functions=[broken, 7])
        self.refused("functions", (0,), functions=[("f", [], [], [("clear", "x")], "a"), 7])
        self.refused("functions", (1, 0), functions=[("g", ["x"], [], [("clear", "x")], None), broken, 7])

    def test_variables_of_the_program_are_not_known(self):
        self.refused("functions", (0, 0), functions=[("f", ["a"], [], [("copy", "a", "x")], None)])
        self.refused("body", (0,), body=[("clear", "a")], functions=[("f", ["a"], [], [], None)])
        made = make(functions=[("f", ["x"], [], [("copy", "x", "x"), ("weak", "w", "x")], "x")])
        self.assertEqual(made.functions()[0][3], [("copy", "x", "x"), ("weak", "w", "x")])

    def test_a_body_that_is_no_list(self):
        for value in all_but(lambda value: isinstance(value, list)):
            self.refused("functions", (1,), functions=[("g", [], [], [], None), ("f", [], [], value, None)])
            self.refused("body", (), body=value)


class Order(Base):
    def test_the_first_part_that_is_invalid(self):
        parts = ["classes", "variables", "weak", "threshold", "radices", "functions"]
        for index, part in enumerate(parts):
            wrong = {name: 0 for name in parts[index:]}
            wrong["body"] = 0
            self.refused(part, -1, **wrong)
        self.refused("body", (), body=0)


class Kept(unittest.TestCase):
    def parts(self):
        return {
            "classes": copy.deepcopy(CLASSES), "body": copy.deepcopy(BODY), "variables": ["x", "y"], "weak": ["w"],
            "threshold": 2, "radices": [3], "functions": [copy.deepcopy(FUNCTION)],
        }

    def told(self, program):
        return {
            "classes": program.classes(), "body": program.body(), "variables": program.variables(),
            "weak": program.weak(), "threshold": program.threshold(), "radices": program.radices(),
            "functions": program.functions(),
        }

    def spoil(self, parts):
        """Change every list that can be reached."""
        ways = list(parts.values())
        while ways:
            value = ways.pop()
            if isinstance(value, (list, tuple)):
                ways.extend(value)
            if isinstance(value, list):
                value.append("spoiled")

    def test_parts_are_returned_as_given(self):
        self.assertEqual(self.told(Program(**self.parts())), self.parts())
        self.assertIs(Program(**self.parts()).classes()[0][3], True)

    def test_arguments_are_not_changed_and_not_kept(self):
        given = self.parts()
        program = Program(**given)
        self.assertEqual(given, self.parts())
        self.spoil(given)
        self.assertEqual(self.told(program), self.parts())

    def test_what_is_returned_is_new(self):
        program = Program(**self.parts())
        self.spoil(self.told(program))
        self.assertEqual(self.told(program), self.parts())
        self.assertEqual(program, Program(**self.parts()))

    def test_by_position_and_keyword(self):
        self.assertEqual(Program(CLASSES, [], **PARTS), Program(body=[], classes=CLASSES, **PARTS))
        self.assertRaises(TypeError, Program, CLASSES, [], ["x"], [], 1, [], [])

    def test_nothing_is_left_behind_by_a_failure(self):
        given = self.parts()
        given["body"].append(("clear", "none"))
        kept = copy.deepcopy(given)
        self.assertRaises(InvalidProgram, Program, **given)
        self.assertEqual(given, kept)


class Equal(unittest.TestCase):
    def test_equal_if_all_parts_are(self):
        plain = {"classes": CLASSES, "body": BODY, "functions": [FUNCTION]}
        self.assertTrue(make(**copy.deepcopy(plain)) == make(**plain))
        self.assertFalse(make(**copy.deepcopy(plain)) != make(**plain))
        others = [
            {"classes": CLASSES + [("more", 1, [], False)]}, {"body": []}, {"variables": ["x", "y", "z"]},
            {"weak": []}, {"threshold": 1}, {"radices": [2]}, {"functions": [FUNCTION[:4] + (None,)], "body": []},
            {"functions": [FUNCTION, ("g", [], [], [], None)]}, {"variables": ["y", "x"]},
            {"classes": [CLASSES[0][:3] + (False,), CLASSES[1]]},
        ]
        for other in others:
            self.assertFalse(make(**plain) == make(**{**plain, **other}), other)
            self.assertTrue(make(**plain) != make(**{**plain, **other}), other)

    def test_equal_to_no_other_object(self):
        class Same:
            def __eq__(self, other):
                return True

        program = make()
        for value in odd_values()[:-1] + [Same()]:
            self.assertIs(program == value, False)
            self.assertIs(program != value, True)
        self.assertTrue(program == odd_values()[-1])


if __name__ == "__main__":
    unittest.main()
