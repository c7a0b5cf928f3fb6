"""Statements and blocks: which are valid, and which place is told: [7], [8], [9]."""

import random
import time
import unittest

from roundheap.errors import InvalidProgram
from kinds import HUGE, is_fine_name, is_plain_integer, make, odd_values

MOST = 10 ** 30
GOOD = [
    ("new", "x", "node"), ("copy", "x", "y"), ("copy", "x", "x"), ("clear", "x"), ("load", "x", "y", "left"),
    ("store", "x", "next", "y"), ("wipe", "y", "right"), ("tag", "x", "anything"), ("emit", "y"), ("weak", "w", "x"),
    ("get", "x", "w"), ("collect", 0), ("collect", 1), ("ifnil", "x", [], []), ("ifsame", "x", "y", [], []),
    ("repeat", 0, []), ("repeat", MOST, []), ("call", None, "f", []), ("call", "x", "g", ["x", "x"]),
    ("call", None, "g", ["x", "y"]),
]
FUNCTIONS = [("f", [], ["a"], [("clear", "a")], None), ("g", ["a", "b"], [], [("copy", "a", "b")], "a")]
# For each word of a statement, behind the first one, values of the wrong kind that look like right ones.
NEAR = {
    "x": ["w", "z", "node", "next", "X", None, ["x"], b"x"], "y": ["w", "z", "nil", None],
    "node": ["x", "nodes", "Node", "left"], "w": ["x", "v", None], "f": ["h", "node", None],
    "left": ["node", "x", "up"], "next": ["node", "x", "up"], "right": ["w"], "anything": ["Any", "", "toolongname", None],
}


def nest(depth, inner, word="ifnil"):
    """A block with one more block in it for each level; the inner one stands within so many others."""
    block = inner
    for _ in range(depth):
        block = [("ifnil", "x", block, [])] if word == "ifnil" else [("repeat", 1, block)]
    return block


class Base(unittest.TestCase):
    def refused(self, part, at, **parts):
        with self.assertRaises(InvalidProgram) as caught:
            make(**{"functions": FUNCTIONS, **parts})
        self.assertEqual((caught.exception.part, caught.exception.at), (part, at))

    def accepted(self, **parts):
        made = make(**{"functions": FUNCTIONS, **parts})
        if "body" in parts:
            self.assertEqual(made.body(), parts["body"])


class Forms(Base):
    def test_each_statement(self):
        for statement in GOOD:
            self.accepted(body=[statement])
        self.accepted(body=list(GOOD))
        self.accepted(body=[])

    def test_words_missing_or_too_many(self):
        for statement in GOOD:
            self.refused("body", (1,), body=[("clear", "x"), statement[:-1]])
            self.refused("body", (1,), body=[("clear", "x"), statement + ("x",)])
            self.refused("body", (1,), body=[("clear", "x"), list(statement)])
            self.refused("body", (1,), body=[("clear", "x"), (statement[0].upper(),) + statement[1:]])
            self.refused("body", (1,), body=[("clear", "x"), (statement[0].encode(),) + statement[1:]])

    def test_words_of_the_wrong_kind(self):
        for statement in GOOD:
            for at in range(1, len(statement)):
                word = statement[at]
                for value in NEAR.get(word, []) if isinstance(word, str) else []:
                    if statement[0] == "call" and at == 1 and value is None:
                        continue
                    wrong = statement[:at] + (value,) + statement[at + 1:]
                    self.refused("body", (0,), body=[wrong])

    def test_words_of_any_kind(self):
        for value in odd_values():
            self.refused("body", (0,), body=[value, 0])
            self.refused("body", (0,), body=[(value, "x", "x", "x", "x", "x")])
            for statement in GOOD:
                for at in range(1, len(statement)):
                    if not self.may_stand(statement, at, value):
                        wrong = statement[:at] + (value,) + statement[at + 1:]
                        self.refused("body", self.place_of(statement, at, value), body=[wrong])

    def may_stand(self, statement, at, value):
        word = statement[0]
        if isinstance(value, list) and len(value) == 0 and statement[at] == []:
            return True
        if word == "tag" and at == 2:
            return is_fine_name(value)
        if word == "collect":
            return is_plain_integer(value) and 0 <= value <= 1
        if word == "repeat" and at == 1:
            return is_plain_integer(value) and 0 <= value <= MOST
        if word == "call" and at == 1 and value is None:
            return True
        return isinstance(value, str) and value == "x" and statement[at] in ("x", "y") \
            or word == "call" and statement[2] == "g" and at == 1 and isinstance(value, str) and value == "x"

    def place_of(self, statement, at, value):
        """Where a value that is no block, or a block with what is no statement, is told."""
        word = statement[0]
        if word == "call" or not isinstance(statement[at], list):
            return (0,)
        ahead = (0, at - len(statement) + 2) if word != "repeat" else (0,)
        return ahead + (0,) if isinstance(value, list) else ahead

    def test_numbers_of_rounds_and_levels(self):
        for number in (-1, MOST + 1, HUGE, -HUGE, True, False, 1.0, "1", None):
            self.refused("body", (0,), body=[("repeat", number, [])])
        for level in (-1, 2, HUGE, True, 0.0, "0", None):
            self.refused("body", (0,), body=[("collect", level)])
        self.accepted(body=[("collect", 3)], threshold=1, radices=[2, 2, 2])
        self.refused("body", (0,), body=[("collect", 4)], threshold=1, radices=[2, 2, 2])
        self.refused("body", (0,), body=[("collect", 1)], radices=[])

    def test_fields_of_any_class(self):
        self.refused("body", (0,), body=[("wipe", "x", "next")], classes=[("a", 1, ["f"], False)])
        self.accepted(body=[("wipe", "x", "g")], classes=[("a", 1, ["f"], False), ("b", 1, ["g"], False)])


class Calls(Base):
    def test_results_and_arguments(self):
        self.refused("body", (0,), body=[("call", "x", "f", [])])
        for arguments in ([], ["x"], ["x", "y", "x"], ("x", "y"), ["x", "w"], ["x", "a"], ["x", None], "xy", None):
            self.refused("body", (0,), body=[("call", "x", "g", arguments)])
        self.refused("body", (0,), body=[("call", "w", "g", ["x", "y"])])

    def test_a_function_calls_earlier_ones_alone(self):
        later = ("h", ["a"], [], [("call", "a", "g", ["a", "a"])], None)
        self.accepted(functions=FUNCTIONS + [later])
        self.refused("functions", (0, 0), functions=[later] + FUNCTIONS)
        self.refused("functions", (0, 1), functions=[("f", [], [], [("collect", 0), ("call", None, "f", [])], None)])
        self.accepted(functions=FUNCTIONS + [later], body=[("call", None, "h", ["x"])])

    def repeats(self, depth, inner):
        return nest(depth, inner, "repeat")

    def test_repeats_are_three_deep_at_most(self):
        self.accepted(body=self.repeats(3, [("clear", "x")]))
        self.refused("body", (0, 0, 0, 0), body=self.repeats(4, []))
        self.refused("body", (1, 0, 0, 0), body=[("clear", "x")] + self.repeats(5, [("bad",)]))
        mixed = self.repeats(2, [("ifnil", "x", [], self.repeats(1, [("ifnil", "x", [], self.repeats(1, []))]))])
        self.refused("body", (0, 0, 0, 1, 0, 0, 1, 0), body=mixed)
        self.refused("functions", (0, 0, 0, 0, 0), functions=[("f", [], [], self.repeats(4, []), None)])
        self.accepted(body=self.repeats(3, []) + self.repeats(3, []))

    def test_a_call_counts_with_the_depth_of_its_function(self):
        call = [("call", None, "f", [])]
        for own in range(4):
            for other in range(5):
                functions = [("f", [], ["a"], [("clear", "a")] + self.repeats(own, []), None)]
                if other > 3:
                    self.refused("body", (0, 0, 0, 0), functions=functions, body=self.repeats(other, call))
                elif own + other > 3:
                    self.refused("body", (0,) * (other + 1), functions=functions, body=self.repeats(other, call))
                else:
                    self.accepted(functions=functions, body=self.repeats(other, call))

    def test_depth_through_calls(self):
        first = ("f", [], [], self.repeats(2, []), None)
        second = ("g", [], [], self.repeats(1, [("call", None, "f", [])]), None)
        third = ("h", [], [], [("call", None, "g", [])], None)
        self.accepted(functions=[first, second, third], body=[("call", None, "h", [])])
        self.refused("body", (0, 0), functions=[first, second, third], body=[("repeat", 0, [("call", None, "h", [])])])
        wrong = ("k", [], [], [("repeat", 1, [("call", None, "h", [])])], None)
        self.refused("functions", (3, 0, 0), functions=[first, second, third, wrong])
        within = ("g", [], [], [("ifsame", "a", "a", [], [])], None)
        self.refused("functions", (1, 0), functions=[first, within])


class Places(Base):
    def test_places_in_blocks(self):
        bad = ("clear", "z")
        fine = ("clear", "x")
        self.refused("body", (2,), body=[fine, fine, bad, bad])
        self.refused("body", (0, 1), body=[("repeat", 2, [fine, bad]), bad])
        self.refused("body", (1, 0, 0), body=[fine, ("ifnil", "x", [bad], [bad]), bad])
        self.refused("body", (1, 1, 2), body=[fine, ("ifnil", "x", [fine], [fine, fine, bad]), bad])
        self.refused("body", (0, 1, 0, 1, 0, 0), body=[
            ("ifsame", "x", "y", [], [("repeat", 1, [fine, ("ifnil", "x", [bad], [])])])])
        self.refused("functions", (0, 0, 1, 0), functions=[("f", ["x"], [], [("ifnil", "x", [], [bad])], None)])

    def test_a_statement_comes_ahead_of_those_in_its_blocks(self):
        bad = ("clear", "z")
        self.refused("body", (0,), body=[("ifnil", "z", [bad], [bad])])
        self.refused("body", (0,), body=[("repeat", -1, [bad])])
        self.refused("body", (0,), body=[("ifnil", "x", [bad])])

    def test_a_block_that_is_no_list(self):
        bad = ("clear", "z")
        self.refused("body", (0,), body=[("repeat", 1, 5), bad])
        self.refused("body", (0, 0), body=[("ifnil", "x", 5, 5), bad])
        self.refused("body", (0, 1), body=[("ifnil", "x", [], None), bad])
        self.refused("body", (0, 0, 0), body=[("ifnil", "x", [bad], 5)])
        self.refused("body", (0, 1), body=[("ifsame", "x", "y", [("clear", "x")], ()), bad])
        self.refused("body", (0, 0), body=[("repeat", 1, [("repeat", 1, "x")])])
        self.refused("functions", (0,), functions=[("f", [], [], (), None)])

    def test_a_block_that_holds_itself(self):
        block = [("clear", "x")]
        block.append(("ifnil", "x", block, []))
        self.refused("body", -1, body=block)
        block.append(("clear", "z"))
        self.refused("body", (1, 0) * 60 + (2,), body=block)
        rounds = []
        rounds.append(("repeat", 1, rounds))
        self.refused("body", (0, 0, 0, 0), body=rounds)


class Limits(Base):
    def test_sixty_statements(self):
        sixty = [("clear", "x")] * 60
        self.accepted(body=sixty, functions=[])
        self.refused("body", -1, body=sixty + [("clear", "x")], functions=[])
        self.accepted(body=sixty[:58])
        self.refused("body", -1, body=sixty[:59])
        self.accepted(body=[("ifnil", "x", sixty[:29], sixty[:30])], functions=[])
        self.refused("body", -1, body=[("ifnil", "x", sixty[:30], sixty[:30])], functions=[])
        self.accepted(functions=[("f", ["x"], [], sixty, None)])
        self.refused("body", -1, functions=[("f", ["x"], [], sixty + sixty[:1], None)])
        self.refused("body", -1, functions=[("f", ["x"], [], sixty, None)], body=[("collect", 0)])

    def test_invalid_statements_come_ahead_of_the_number(self):
        many = [("clear", "x")] * 100
        self.refused("body", (100,), body=many + [("clear", "z")])
        self.refused("body", (0,), functions=[("f", ["x"], [], many, None)], body=[("clear", "z")])
        self.refused("functions", (1, 0), functions=[("f", ["x"], [], many, None), ("g", [], [], [0], None)])
        self.refused("body", (), functions=[("f", ["x"], [], many, None)], body=0)

    def test_sixty_blocks(self):
        self.accepted(body=nest(59, [("clear", "x")]), functions=[])
        self.accepted(body=nest(60, []), functions=[])
        # The block within 60 others is looked into, the one within 61 others is not.
        self.refused("body", -1, body=nest(60, [("clear", "x")]), functions=[])
        self.refused("body", (0, 0) * 60 + (0,), body=nest(60, [("clear", "z")]), functions=[])
        self.refused("body", (0, 0) * 60, body=nest(60, "z"), functions=[])
        self.refused("body", -1, body=nest(61, []), functions=[])
        self.refused("body", -1, body=nest(61, [("clear", "z")]), functions=[])
        self.refused("body", -1, body=nest(61, "z"), functions=[])
        self.refused("body", (0, 0) * 60 + (0,), body=nest(60, [("ifnil", "z", [], [])]), functions=[])

    def test_repeats_in_what_is_not_looked_into_do_not_count(self):
        functions = [("f", ["x"], [], nest(61, nest(3, [], "repeat")), None)]
        self.refused("body", -1, functions=functions, body=nest(3, [("call", None, "f", ["x"])], "repeat"))
        functions = [("f", ["x"], [], nest(60, nest(1, [], "repeat")), None)]
        self.refused("body", (0, 0, 0, 0), functions=functions, body=nest(3, [("call", None, "f", ["x"])], "repeat"))

    def test_blocks_nested_by_hundreds_and_thousands(self):
        for depth in (62, 100, 300, 1000, 5000):
            block = nest(depth, [("clear", "z")])
            self.refused("body", -1, body=block)
            self.refused("body", (1,), body=block + [("clear", "z")])
            self.refused("body", -1, functions=[("f", ["x"], [], block, None)])
            self.refused("functions", (0, 1), functions=[("f", ["x"], [], block + [("clear", "z")], None)])
            self.refused("body", (0, 0, 0, 0), body=nest(depth, [], "repeat"))

    def test_long_blocks(self):
        begin = time.process_time()
        self.refused("body", (200000,), body=[("clear", "x")] * 200000 + [("clear", "z")])
        self.assertLess(time.process_time() - begin, 20)


class Random(Base):
    """Valid bodies in which some statements are spoiled: the first one in the order of the text is told."""

    def block(self, rng, ahead, repeats, budget, places):
        rows = []
        for _ in range(rng.randint(0, 4)):
            if budget[0] == 0:
                break
            budget[0] -= 1
            place = ahead + (len(rows),)
            places.append(place)
            rows.append(self.statement(rng, place, repeats, budget, places))
        return rows

    def statement(self, rng, place, repeats, budget, places):
        word = rng.choice(["repeat", "ifnil", "ifsame", "plain", "plain"])
        if word == "repeat" and repeats < 3:
            return ("repeat", rng.randint(0, MOST), self.block(rng, place, repeats + 1, budget, places))
        if word in ("ifnil", "ifsame"):
            first = self.block(rng, place + (0,), repeats, budget, places)
            second = self.block(rng, place + (1,), repeats, budget, places)
            return (word, "x", first, second) if word == "ifnil" else (word, "x", "y", first, second)
        return rng.choice(GOOD[:13])

    def spoiled(self, rng, block, ahead, targets):
        rows = []
        for index, statement in enumerate(block):
            place = ahead + (index,)
            if place in targets:
                wrong = [("bad",), 0, None, statement[:-1], statement + (0,), (statement[0], "zz") + statement[2:]]
                rows.append(rng.choice(wrong))
            elif statement[0] == "repeat":
                rows.append(statement[:2] + (self.spoiled(rng, statement[2], place, targets),))
            elif statement[0] in ("ifnil", "ifsame"):
                first = self.spoiled(rng, statement[-2], place + (0,), targets)
                rows.append(statement[:-2] + (first, self.spoiled(rng, statement[-1], place + (1,), targets)))
            else:
                rows.append(statement)
        return rows

    def test_first_in_the_order_of_the_text(self):
        rng = random.Random(9)
        for _ in range(1500):
            places = []
            body = self.block(rng, (), 0, [60], places)
            self.accepted(body=body, functions=[])
            self.accepted(functions=[("f", ["x", "y"], [], body, "y")])
            if places:
                targets = rng.sample(places, min(len(places), rng.randint(1, 4)))
                first = min(targets, key=places.index)
                wrong = self.spoiled(rng, body, (), targets)
                self.refused("body", first, body=wrong)
                self.refused("functions", (0,) + first, functions=[("f", ["x", "y"], [], wrong, "y")])


if __name__ == "__main__":
    unittest.main()
