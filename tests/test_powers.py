"""Moves one behind the other, powers, the way back, cycles and meetings: [27], [28], [29]."""

import random
import time
import unittest

from roundheap.errors import InvalidArgument, InvalidNumber, InvalidPlace
from roundheap.moves import Move, identity
from chance import ends, made, objects, plain_origin, pool, some_move
from kinds import HUGE, all_but, is_plain_integer, odd_values

LEAK = (pool(1, 0), {1: ([], 1)})
# What is not round: an object from behind the last one, and a front that is longer than its fresh.
NOT_ROUND = [Move(objects(1), {}), Move([], {1: (objects(0), 0)}), Move(objects(0), {2: (objects(1), 1)}),
             Move(objects(0), {2: (pool(2, 0) + objects(1), 1)})]


def is_of_one_size(move):
    """Whether no pool gets an address of another size: objects have no sizes here, so some moves by chance do so."""
    fronts = [(size, place) for size, (front, _) in move.pools().items() for place in front]
    return all(place[0] == "object" or place[1] == size for size, place in fronts)


def back(plain, place, times):
    """The origin of a place so many stretches ago, step by step; None if it comes from no place of the move."""
    for _ in range(times):
        place = plain_origin(plain, place)
        if place is None:
            return None
    return place


class Base(unittest.TestCase):
    def refused(self, part, call, *arguments):
        with self.assertRaises(InvalidArgument) as caught:
            call(*arguments)
        self.assertEqual(caught.exception.part, part)

    def raises(self, error, value, call, *arguments):
        with self.assertRaises(error) as caught:
            call(*arguments)
        self.assertIs(caught.exception.place if error is InvalidPlace else caught.exception.number, value)

    def soon(self, call):
        begin = time.process_time()
        result = call()
        self.assertLess(time.process_time() - begin, 10)
        return result


class Then(Base):
    def test_both_stretches(self):
        rng = random.Random(4)
        done = 0
        while done < 600:
            one, later = some_move(rng, rng.random() < 0.5), some_move(rng, rng.random() < 0.5)
            origins = later[0] + [place for front, _ in later[1].values() for place in front]
            if max([place[1] for place in origins if place[0] == "object"], default=-1) >= len(one[0]):
                self.refused("later", made(one).then, made(later))
                continue
            done += 1
            both = made(one).then(made(later))
            for place in ends(later):
                self.assertEqual(both.origin(place), plain_origin(one, plain_origin(later, place)))
            self.assertEqual(len(both.objects()), len(later[0]))
            if is_of_one_size(both):
                self.assertEqual(Move(both.objects(), both.pools()), both)

    def test_what_later_may_not_be(self):
        move = Move(objects(1, 0), {})
        for value in all_but(lambda value: isinstance(value, Move)):
            self.refused("later", move.then, value)
        self.refused("later", move.then, Move(objects(2), {}))
        self.refused("later", move.then, Move(objects(0, 1), {1: (objects(2), 0)}))
        self.refused("later", move.then, identity(3))
        self.refused("later", move.then, identity(HUGE))
        self.assertEqual(move.then(later=Move(objects(1), {})), Move(objects(0), {}))

    def test_great_numbers(self):
        one = Move(pool(1, 0), {1: (pool(1, 2, 1), HUGE)})
        later = Move(pool(1, 1, HUGE + 1), {1: ([], HUGE + 2)})
        both = self.soon(lambda: one.then(later))
        self.assertEqual(both, Move(pool(1, 1, 2 * HUGE - 1), {1: ([], 2 * HUGE)}))
        self.assertEqual(both.shift(1), one.shift(1) + later.shift(1))


class Power(Base):
    def test_step_by_step(self):
        rng = random.Random(5)
        for _ in range(300):
            plain = some_move(rng, True)
            move = made(plain)
            power = identity(len(plain[0]))
            for count in range(9):
                self.assertEqual(move.power(count), power)
                for place in ends(plain):
                    self.assertEqual(power.origin(place), back(plain, place, count))
                power = power.then(move)
            one, other = rng.randint(0, 40), rng.randint(0, 10 ** 40)
            self.assertEqual(move.power(one).then(move.power(other)), move.power(one + other))
            self.assertEqual(move.power(other).power(one), move.power(other * one))
            if is_of_one_size(power):
                self.assertEqual(Move(power.objects(), power.pools()), power)

    def test_great_counts(self):
        leak = Move(*LEAK)
        power = self.soon(lambda: leak.power(HUGE))
        self.assertEqual(power, Move([("pool", 1, HUGE - 1)], {1: ([], HUGE)}))
        self.assertEqual(power.shift(1), HUGE)
        length = 20000
        ring = Move(objects(*range(1, length), 0), {})
        self.assertEqual(self.soon(lambda: ring.power(HUGE)).origin(("object", 7)), ("object", (7 + HUGE) % length))
        path = Move([("object", 1), ("object", 2), ("pool", 3, 1)], {3: (pool(3, 0), 2)})
        self.assertEqual(path.power(HUGE).objects(), pool(3, HUGE - 2, HUGE - 1, HUGE))
        self.assertEqual(path.power(1), path)
        self.assertEqual(path.power(0), identity(3))

    def test_wrong_counts_and_moves(self):
        for move in NOT_ROUND + [Move(*LEAK)]:
            for value in all_but(lambda value: is_plain_integer(value) and value >= 0):
                self.raises(InvalidNumber, value, move.power, value)
        for move in NOT_ROUND:
            for count in (0, 1, 2, HUGE):
                self.refused("move", move.power, count)
        self.assertEqual(Move(*LEAK).power(count=2), Move(pool(1, 1), {1: ([], 2)}))
        # As long as its fresh is a front of a round move, also before it is told in the shortest form.
        self.assertEqual(Move(objects(0), {1: (pool(1, 0), 1)}).power(3), identity(1))

    def test_identity(self):
        for count in (0, 1, 5):
            self.assertEqual(identity(count).objects(), objects(*range(count)))
            self.assertEqual(identity(count).pools(), {})
            self.assertEqual(identity(count=count), Move(objects(*range(count)), {}))
        for value in all_but(lambda value: is_plain_integer(value) and value >= 0):
            self.raises(InvalidNumber, value, identity, value)

    def test_great_identity(self):
        great = self.soon(lambda: identity(HUGE))
        last = ("object", HUGE - 1)
        self.assertEqual([great.origin(last), great.goal(last)], [last, last])
        self.raises(InvalidPlace, place := ("object", HUGE), great.origin, place)
        self.assertIsNone(great.goal(("object", HUGE)))
        for same in (great.then(identity(HUGE)), great.power(HUGE), great.inverse()):
            self.assertTrue(same == great)
        self.assertFalse(great == identity(HUGE + 1))
        self.assertEqual(great.then(identity(2)), identity(2))
        self.assertEqual(great.then(Move([last], {})), Move([last], {}))
        self.refused("later", great.then, identity(HUGE + 1))
        self.assertEqual([great.order(), great.cycles(), great.returns(last)], [1, [], 1])
        self.assertEqual([great.meets(last, last), great.meets(last, ("object", 0))], [(0, 1), None])
        self.raises(InvalidPlace, place := ("object", HUGE), great.returns, place)


class Inverse(Base):
    def test_there_and_back(self):
        rng = random.Random(6)
        found = 0
        while found < 300:
            plain = some_move(rng, rng.random() < 0.5)
            move = made(plain)
            origins = {plain_origin(plain, place) for place in ends(plain, 30)}
            many = max([place[1] + 1 for place in origins if place[0] == "object"], default=0)
            if not set(ends((objects(*range(many)), {}))) <= origins:
                self.refused("move", move.inverse)
                continue
            found += 1
            inverse = move.inverse()
            self.assertEqual(len(inverse.objects()), many)
            for place in ends((objects(*range(many)), {})):
                self.assertEqual(inverse.origin(place), move.goal(place))
            self.assertEqual(move.then(inverse), identity(many))
            self.assertEqual(inverse.then(move), identity(len(plain[0])))
            for place in ends(plain):
                self.assertEqual(inverse.goal(place), move.origin(place))

    def test_what_has_none(self):
        for move in (Move(*LEAK).power(2), Move(objects(1), {}), Move([], {1: (objects(1), 0)}),
                     Move([], {1: ([], 1)}), Move([], {1: ([], HUGE)}), Move(objects(HUGE), {}),
                     Move(objects(0, 2), {}), Move(objects(0), {1: (objects(2), 0)})):
            self.refused("move", move.inverse)

    def test_objects_that_come_and_go(self):
        taken = Move(pool(1, 0, 1), {1: ([], 2)})
        freed = Move([], {1: (objects(0, 1), 0)})
        self.assertEqual(taken.inverse(), freed)
        self.assertEqual(freed.inverse(), taken)
        self.assertEqual(Move(*LEAK).inverse(), Move([], {1: (objects(0), 0)}))
        self.assertEqual(Move([], {}).inverse(), identity(0))
        # The last object at the end comes from the pool: the objects at the beginning are fewer.
        self.assertEqual(Move(objects(1, 0) + pool(2, 0), {2: ([], 1)}).inverse(),
                         Move(objects(1, 0), {2: (objects(2), 0)}))
        self.assertEqual(Move(objects(0, 1), {2: (objects(2), 0)}).inverse(),
                         Move(objects(0, 1) + pool(2, 0), {2: ([], 1)}))


class Cycles(Base):
    def plain_cycles(self, plain):
        found = []
        seen = set()
        for place in ends(plain):
            chain = [place]
            while back(plain, chain[-1], 1) not in chain + [None] and len(chain) < 60:
                chain.append(back(plain, chain[-1], 1))
            if place not in seen and back(plain, chain[-1], 1) == place and len(chain) > 1:
                found.append(chain)
                seen.update(chain)
        return found

    def test_cycles_of_any_move(self):
        rng = random.Random(7)
        for _ in range(600):
            plain = some_move(rng, rng.random() < 0.5)
            self.assertEqual(made(plain).cycles(), self.plain_cycles(plain))

    def test_cycles_in_order(self):
        move = Move(objects(2, 1, 0) + pool(1, 0) + objects(5, 4), {
            8: (pool(8, 1, 0), 2), 1: (objects(3) + pool(1, 2, 1), 3), 2: (pool(2, 0, 2, 1), 3)})
        self.assertEqual(move.cycles(), [
            objects(0, 2), [("object", 3), ("pool", 1, 0)], objects(4, 5), pool(1, 1, 2), pool(2, 1, 2), pool(8, 0, 1)])
        self.assertEqual(move.order(), 2)
        self.assertEqual(NOT_ROUND[0].cycles(), [])
        self.assertEqual(Move(objects(1, 0, 7), {}).cycles(), [objects(0, 1)])
        self.assertIsNone(Move(objects(1, 0, 7), {}).order())
        move.cycles()[0].append(0)
        self.assertEqual(move.cycles()[0], objects(0, 2))

    def test_order(self):
        rng = random.Random(8)
        for _ in range(300):
            plain = some_move(rng, rng.random() < 0.8)
            move = made(plain)
            same = identity(len(plain[0]))
            try:
                orders = [count for count in range(1, 400) if move.power(count) == same]
            except InvalidArgument:
                orders = []
            self.assertEqual(move.order(), orders[0] if orders else None)
        for move in NOT_ROUND:
            self.assertIsNone(move.order())
        self.assertIsNone(Move(*LEAK).order())
        self.assertEqual(identity(3).order(), 1)

    def test_great_orders(self):
        heads = []
        product = 1
        for length in (2, 3, 5, 7, 11, 13, 17, 19, 23, 29, 31, 37, 41, 43, 47, 53, 59, 61, 67, 71, 73, 79, 83, 89, 97):
            begin = len(heads)
            heads += objects(*range(begin + 1, begin + length), begin)
            product *= length
        move = Move(heads, {})
        self.assertEqual(move.order(), product)
        self.assertEqual(move.power(product * HUGE), identity(len(heads)))
        self.assertEqual(move.power(product * HUGE + 1), move)
        self.assertEqual(move.returns(("object", 0)), 2)


class Meetings(Base):
    def test_step_by_step(self):
        rng = random.Random(9)
        for _ in range(150):
            plain = some_move(rng, True)
            move = made(plain)
            places = ends(plain, 7)
            ways = {place: [back(plain, place, count) for count in range(50)] for place in places}
            for place in places:
                times = [count for count in range(1, 50) if ways[place][count] == place]
                self.assertEqual(move.returns(place), times[0] if times else None)
                for goal in rng.sample(places, 12) + [place]:
                    times = [count for count in range(50) if ways[goal][count] == place]
                    told = None
                    if len(times) == 1:
                        told = (times[0], None)
                    elif times:
                        told = (times[0], times[1] - times[0])
                    self.assertEqual(move.meets(place, goal), told, (move, place, goal))

    def test_great_numbers(self):
        move = Move(objects(1) + pool(1, 1), {1: (pool(1, 2), 3)})
        self.assertEqual(move.shift(1), 2)
        place = ("pool", 1, 2 * HUGE + 1)
        self.assertEqual(self.soon(lambda: move.meets(place, ("object", 0))), (HUGE + 2, None))
        self.assertEqual(move.meets(place, ("pool", 1, 1)), (HUGE, None))
        self.assertIsNone(move.meets(place, ("pool", 1, 2)))
        self.assertIsNone(move.meets(("pool", 1, 1), place))
        self.assertIsNone(move.meets(place, ("pool", 2, 1)))
        self.assertEqual(move.meets(place, place), (0, None))
        self.assertIsNone(move.returns(place))
        still = ("pool", 2, HUGE)
        self.assertEqual([move.meets(still, still), move.returns(still)], [(0, 1), 1])
        self.assertEqual([move.power(count).origin(("object", 0)) == place for count in (HUGE + 1, HUGE + 2)],
                         [False, True])

    def test_places_of_any_kind(self):
        good = ("object", 0)
        for move in [Move(objects(0), {})] + NOT_ROUND[:1]:
            for value in odd_values() + [("object", 1), ("object", HUGE)]:
                self.raises(InvalidPlace, value, move.returns, value)
                self.raises(InvalidPlace, value, move.meets, value, good)
                self.raises(InvalidPlace, value, move.meets, good, value)
                self.raises(InvalidPlace, value, move.meets, value, 0)

    def test_moves_that_are_not_round(self):
        for move in NOT_ROUND:
            self.refused("move", move.returns, ("pool", 1, 0))
            self.refused("move", move.meets, ("pool", 1, 0), ("pool", 1, HUGE))
        self.assertEqual(Move(*LEAK).meets(goal=("object", 0), place=("pool", 1, 3)), (4, None))
        self.assertEqual(identity(1).returns(place=("object", 0)), 1)

    def test_addresses_that_are_taken_are_an_arithmetic_progression(self):
        move = Move(objects(1) + pool(5, 2), {5: (pool(5, 3, 0, 1), 6)})
        self.assertIsNone(move.order())
        for place in objects(0, 1) + pool(5, 0, 1, 2):
            self.assertIsNone(move.returns(place))
            far = [move.power(HUGE + count).origin(place)[2] for count in range(4)]
            self.assertEqual([later - one for one, later in zip(far, far[1:])], [move.shift(5)] * 3)


if __name__ == "__main__":
    unittest.main()
