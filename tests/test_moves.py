"""Moves: what they are made of, origins, goals, shifts, equality and repr: [2], [25], [26]."""

import copy
import random
import unittest

from roundheap.errors import InvalidArgument, InvalidNumber, InvalidPlace
from roundheap.moves import Move, identity
from chance import ends, made, objects, plain_origin, pool, some_move
from kinds import HUGE, all_but, is_plain_integer, odd_values

LEAK = (pool(1, 0), {1: ([], 1)})


class Base(unittest.TestCase):
    def refused(self, part, heads, pools):
        with self.assertRaises(InvalidArgument) as caught:
            Move(heads, pools)
        self.assertEqual(caught.exception.part, part)

    def raises(self, error, value, call, *arguments):
        with self.assertRaises(error) as caught:
            call(*arguments)
        kept = caught.exception.place if error is InvalidPlace else caught.exception.number
        self.assertIs(kept, value)


class Making(Base):
    def test_parts_are_returned(self):
        heads = objects(3, 0) + pool(8, 0)
        pools = {8: (objects(1), 1), 2: ([("pool", 2, 1), ("pool", 2, 0)], 2)}
        move = Move(heads, pools)
        self.assertEqual([move.objects(), move.pools()], [heads, pools])
        self.assertEqual(Move(pools=pools, objects=heads), move)
        self.assertEqual([Move([], {}).objects(), Move([], {}).pools()], [[], {}])

    def test_objects_that_are_no_list_of_places(self):
        for value in all_but(lambda value: isinstance(value, list) and len(value) == 0):
            self.refused("objects", value, {})
            self.refused("objects", value, 0)
            self.refused("objects", [("object", 0), value], {})
        for place in (("object", -1), ("object", True), ("pool", 0, 0), ("pool", 9, 0), ("pool", 1, -1),
                      ("pool", 1), ("object", 0, 0), ["object", 0], ("Object", 0), ("pool", 1, 0.0), ("object", None),
                      (b"object", 0), ("objects", 0), ("pool", False, 0), ("pool", 1, True), ("object", 1, 0), ("pools", 1, 0),
                      (None, 1, 0), (None, 0), (["object"], 0), ("pool", 1, 0, 0)):
            self.refused("objects", [place], {})
        self.refused("objects", tuple(objects(0)), {})

    def test_pools_that_are_no_dict(self):
        for value in all_but(lambda value: isinstance(value, dict) and len(value) == 0):
            self.refused("pools", [], value)
            self.refused("pools", objects(0, 0), value)
            self.refused("pools", [], {1: value})
            self.refused("pools", [], {1: ([], 0), 2: ([value], 0)})
            if not (is_plain_integer(value) and value >= 0):
                self.refused("pools", [], {1: ([], value)})
            if not (isinstance(value, list) and len(value) == 0):
                self.refused("pools", [], {1: (value, 0)})

    def test_keys_of_pools(self):
        for key in (0, 9, -1, True, False, 1.0, "1", None, (1,), HUGE, frozenset([1]), b"1"):
            self.refused("pools", [], {key: ([], 0)})
        for size in range(1, 9):
            self.assertEqual(Move([], {size: ([], 1)}).pools(), {size: ([], 1)})

    def test_values_of_pools(self):
        for value in (([],), ([], 0, 0), [[], 0], (pool(2, 0), 1), (tuple(pool(1, 0)), 1), ([], True), ([], -1),
                      ([], 1.0), (pool(1, 0) + [None], 1)):
            self.refused("pools", [], {1: value})

    def test_a_place_that_is_an_origin_twice(self):
        self.refused("places", objects(0, 0), {})
        self.refused("places", objects(2, 1, 2), {})
        self.refused("places", pool(1, 0), {})
        self.refused("places", pool(1, 3), {1: ([], 3)})
        self.refused("places", pool(1, HUGE), {1: ([], 3)})
        self.refused("places", pool(2, 0), {1: ([], 3)})
        self.refused("places", pool(1, 2), {1: (pool(1, 2), 3)})
        self.refused("places", objects(1), {1: (objects(1), 3)})
        self.refused("places", [], {1: (pool(1, 0, 0), 3)})
        self.refused("places", [], {1: (pool(1, 1), 1)})
        self.refused("places", [], {1: (objects(5), 0), 2: (objects(5), 0)})
        self.assertEqual(Move(pool(1, 2), {1: ([], 3)}).goal(("pool", 1, 2)), ("object", 0))

    def test_objects_first_then_pools_then_places(self):
        self.refused("objects", [0], {0: 0})
        self.refused("objects", objects(0, 0) + [0], {0: 0})
        self.refused("pools", objects(0, 0), {0: 0})

    def test_arguments_are_not_changed_and_not_kept(self):
        heads, pools = objects(1) + pool(1, 0), {1: (objects(0) + pool(1, 1), 2)}
        kept = copy.deepcopy((heads, pools))
        move = Move(heads, pools)
        self.assertEqual((heads, pools), kept)
        heads.append(0)
        pools[1][0].append(0)
        pools[2] = 0
        self.assertEqual([move.objects(), move.pools()], [kept[0], {1: (objects(0), 1)}])

    def test_what_is_returned_is_new(self):
        move = Move(objects(1, 0), {1: (objects(2), 1)})
        move.objects().append(0)
        move.pools()[1][0].append(0)
        move.pools()[2] = 0
        self.assertEqual([move.objects(), move.pools()], [objects(1, 0), {1: (objects(2), 1)}])


class Shortest(Base):
    def test_fronts_are_as_short_as_possible(self):
        self.assertEqual(Move([], {1: (pool(1, 0, 1, 2), 3)}).pools(), {})
        self.assertEqual(Move([], {1: (pool(1, 1, 0, 2, 3), 4)}).pools(), {1: (pool(1, 1, 0), 2)})
        self.assertEqual(Move([], {1: (pool(1, 4, 5), 6)}).pools(), {1: ([], 4)})
        self.assertEqual(Move([], {1: (objects(0) + pool(1, 0), 1)}).pools(), {1: (objects(0), 0)})
        self.assertEqual(Move([], {1: (pool(1, 0) + objects(0), 1)}).pools(), {1: (pool(1, 0) + objects(0), 1)})
        self.assertEqual(Move([], {1: ([], 0), 2: ([], 1)}).pools(), {2: ([], 1)})

    def test_equal(self):
        short = Move([], {3: (pool(3, 1, 0), 2)})
        self.assertTrue(short == Move([], {1: ([], 0), 3: (pool(3, 1, 0, 2, 3), 4)}))
        self.assertFalse(short != Move([], {1: ([], 0), 3: (pool(3, 1, 0, 2, 3), 4)}))
        self.assertTrue(Move([], {1: ([], 1), 2: ([], 2)}) == Move([], {2: ([], 2), 1: ([], 1)}))
        self.assertTrue(Move(objects(0, 1), {}) == identity(2))
        for other in (Move(objects(0), {}), Move([], {}), Move([], {3: (pool(3, 1, 0), 3)}), Move([], {3: ([], 2)}),
                      Move([], {4: (pool(4, 1, 0), 2)})):
            self.assertFalse(short == other)
            self.assertTrue(short != other)
        self.assertFalse(identity(1) == identity(2))

    def test_equal_to_nothing_else(self):
        class Same:
            def __eq__(self, other):
                return True

        move = Move(objects(0), {})
        for value in odd_values() + [Same()]:
            self.assertIs(move == value, False)
            self.assertIs(move != value, True)

    def test_repr(self):
        self.assertEqual(repr(Move(*LEAK)), "Move([('pool', 1, 0)], {1: ([], 1)})")
        self.assertEqual(repr(Move([], {})), "Move([], {})")
        self.assertEqual(repr(Move([], {8: ([], 2), 3: (pool(3, 1, 0, 2), 3), 1: ([], 0)})),
                         "Move([], {3: ([('pool', 3, 1), ('pool', 3, 0)], 2), 8: ([], 2)})")
        self.assertEqual(repr(identity(2)), "Move([('object', 0), ('object', 1)], {})")
        great = 10 ** 3999
        self.assertEqual(repr(Move([], {1: ([], great)})), f"Move([], {{1: ([], {great})}})")
        rng = random.Random(1)
        for _ in range(200):
            move = made(some_move(rng, False))
            self.assertEqual(eval(repr(move)), move)
            self.assertEqual(repr(eval(repr(move))), repr(move))


class Ways(Base):
    def test_origins(self):
        rng = random.Random(2)
        for _ in range(400):
            plain = some_move(rng, rng.random() < 0.5)
            move = made(plain)
            for place in ends(plain):
                self.assertEqual(move.origin(place), plain_origin(plain, place))
            self.raises(InvalidPlace, place := ("object", len(plain[0])), move.origin, place)

    def test_goals(self):
        rng = random.Random(3)
        for _ in range(400):
            plain = some_move(rng, rng.random() < 0.5)
            move = made(plain)
            goals = {plain_origin(plain, place): place for place in ends(plain, 30)}
            for place in ends((objects(*range(12)), {})):
                self.assertEqual(move.goal(place), goals.get(place))

    def test_great_numbers(self):
        move = Move([("pool", 1, HUGE - 1), ("object", HUGE)], {1: ([], HUGE)})
        self.assertEqual(move.origin(("pool", 1, HUGE)), ("pool", 1, 2 * HUGE))
        self.assertEqual(move.origin(("pool", 2, HUGE)), ("pool", 2, HUGE))
        self.assertEqual([move.origin(("object", 0)), move.origin(("object", 1))], move.objects())
        self.assertEqual(move.goal(("pool", 1, HUGE - 1)), ("object", 0))
        self.assertEqual(move.goal(("pool", 1, HUGE)), ("pool", 1, 0))
        self.assertEqual(move.goal(("object", HUGE)), ("object", 1))
        self.assertIsNone(move.goal(("pool", 1, HUGE - 2)))
        self.assertIsNone(move.goal(("object", HUGE + 1)))
        self.assertEqual(move.shift(1), HUGE)
        self.raises(InvalidPlace, place := ("object", HUGE), move.origin, place)

    def test_places_of_any_kind(self):
        move = Move(objects(1, 0), {})
        for value in odd_values():
            self.raises(InvalidPlace, value, move.origin, value)
            self.raises(InvalidPlace, value, move.goal, value)
        self.raises(InvalidPlace, place := ("object", 2), move.origin, place)
        self.assertIsNone(move.goal(("object", 2)))
        self.assertEqual([move.origin(place=("object", 0)), move.goal(place=("object", 0))], objects(1, 1))

    def test_shift(self):
        move = Move(pool(1, 0), {1: ([], 1), 2: (objects(0), 0), 3: (pool(3, 1, 0, 2), 3)})
        self.assertEqual([move.shift(size) for size in range(1, 9)], [1, -1, 0, 0, 0, 0, 0, 0])
        self.assertEqual(move.shift(size=2), -1)
        for value in all_but(lambda value: is_plain_integer(value) and 1 <= value <= 8):
            self.raises(InvalidNumber, value, move.shift, value)
        for value in (0, 9, True):
            self.raises(InvalidNumber, value, move.shift, value)


if __name__ == "__main__":
    unittest.main()
