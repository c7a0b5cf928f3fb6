"""Blocks of new and clear, and their moves: [30] and [31]."""

import itertools
import random
import unittest

from chance import made, objects, pool, some_move
from kinds import all_but, is_fine_name, is_list_of_names, odd_values
from roundheap.blocks import block_for, block_move, shortest_block, spares_needed
from roundheap.errors import InvalidArgument, LimitExceeded
from roundheap.moves import Move, identity
from roundheap.programs import Program
from roundheap.runs import Run

NAMES = list("abcdefghijklmnop")


def plain_move(size, names, spare, block):
    """(objects, pools) of a block by the words of the document; None if the variables are not as before."""
    held = {name: ("object", index) for index, name in enumerate(names)}
    births = {name: index for index, name in enumerate(names)}
    free = [("pool", size, index) for index in range(len(block) + 1)]
    for number, statement in enumerate(block):
        name = statement[1]
        old = held.pop(name, None)
        if statement[0] == "new":
            held[name] = free.pop(0)
            births[name] = 100 + number
        if old is not None:
            free.insert(0, old)
    if set(held) != set(names) or sorted(names, key=births.get) != names:
        return None
    return Move([held[name] for name in names], {size: (free, len(block) + 1)})


def all_moves(size, names, spare):
    """A dict from the reprs of all moves of blocks to the least of the shortest blocks, by going through all of them."""
    steps = [("clear", name) for name in sorted(names + spare)] + [("new", name, "c") for name in sorted(names + spare)]
    def look(state):
        held, births, free, fresh = state
        order = sorted(births.values())
        return (tuple(sorted(held.items())), tuple(sorted((name, order.index(birth)) for name, birth in births.items())), tuple(free), fresh)
    begin = ({name: ("object", index) for index, name in enumerate(names)}, {name: index for index, name in enumerate(names)}, [], 0)
    seen, ways, found, births = {look(begin)}, [(begin, [])], {}, 100
    for (held, made_at, free, fresh), block in ways:
        if set(held) == set(names) and sorted(names, key=made_at.get) == names:
            found.setdefault(repr(Move([held[name] for name in names], {size: (list(free), fresh)})), block)
        for step in steps:
            name = step[1]
            now, at, rest, first = dict(held), dict(made_at), list(free), fresh
            old = now.pop(name, None)
            at.pop(name, None)
            if step[0] == "new":
                if rest:
                    now[name] = rest.pop(0)
                else:
                    now[name] = ("pool", size, first)
                    first += 1
                births += 1
                at[name] = births
            if old is not None:
                rest.insert(0, old)
            while rest and rest[-1] == ("pool", size, first - 1):
                rest.pop()
                first -= 1
            state = (now, at, rest, first)
            if look(state) not in seen:
                seen.add(look(state))
                ways.append((state, block + [step]))
    return found


def permutation(size, many, order):
    """The move of a permutation of the objects and of the first places of the pool."""
    places = objects(*range(many)) + pool(size, *range(len(order) - many))
    heads = [places[index] for index in order]
    return Move(heads[:many], {size: (heads[many:], len(order) - many)})


class Base(unittest.TestCase):
    def refused(self, part, call, *arguments):
        with self.assertRaises(InvalidArgument) as caught:
            call(*arguments)
        self.assertEqual(caught.exception.part, part)


class BlockMoves(Base):
    def test_small_blocks(self):
        self.assertEqual(block_move(1, ["a"], [], []), identity(1))
        self.assertEqual(block_move(3, [], ["a"], [("new", "a", "c"), ("clear", "a")]), identity(0))
        self.assertEqual(block_move(1, ["a"], [], [("new", "a", "c"), ("new", "a", "d")]), Move(objects(0), {}))
        self.assertIsNone(block_move(1, ["a"], [], [("clear", "a")]))
        self.assertIsNone(block_move(1, ["a", "b"], [], [("new", "a", "c")]))
        self.assertIsNone(block_move(1, ["a"], ["b"], [("new", "b", "c")]))
        self.assertEqual(block_move(8, ["a"], [], [("clear", "a"), ("clear", "a"), ("new", "a", "c")]), identity(1))
        self.assertEqual(block_move(2, ["a", "b"], [], [("new", "b", "c")]).pools(), {2: (objects(1), 1)})

    def test_by_chance(self):
        rng = random.Random(1)
        told = set()
        for _ in range(600):
            size = rng.randint(1, 8)
            names = rng.sample(NAMES, rng.randint(0, 4))
            spare = [name for name in rng.sample(NAMES, 3) if name not in names][:rng.randint(0, 3)]
            block = []
            for _ in range(rng.randint(0, 9) if names + spare else 0):
                name = rng.choice(names + spare)
                block.append(rng.choice([("new", name, rng.choice(["c", "node"]))] * 2 + [("clear", name)]))
            block += [("new", name, "c") for name in names] if rng.random() < 0.7 else []
            block += [("clear", name) for name in spare] if rng.random() < 0.7 else []
            move = block_move(size, names, spare, block)
            told.add(move is None)
            self.assertEqual(move, plain_move(size, names, spare, block))
        self.assertEqual(told, {True, False})

    def test_the_memory_does_the_same(self):
        rng = random.Random(2)
        for _ in range(40):
            names, spare = ["a", "b", "d"][:rng.randint(1, 3)], ["e", "f"]
            block = [rng.choice([("new", rng.choice(names + spare), "c"), ("clear", rng.choice(names + spare))]) for _ in range(6)]
            block += [("new", name, "c") for name in names] + [("clear", name) for name in spare]
            move = block_move(2, names, spare, block)
            body = [("new", name, "c") for name in names]
            program = Program([("c", 2, [], False)], body + block, variables=names + spare, weak=[], threshold=12, radices=[], functions=[])
            if len(body + block) > 11:
                continue
            view = Run(program).view((len(body + block),))
            places = {("object", index): (2, index) for index in range(len(names))}
            homes = [places.get(place, (2, len(names) + place[-1])) for place in move.objects()]
            self.assertEqual([view.address(view.value(name)) for name in names], homes)

    def test_long_blocks(self):
        block = [("new", "a", "c"), ("new", "b", "c")] * 5000
        self.assertEqual(block_move(1, ["a", "b"], [], block), block_move(1, ["a", "b"], [], block[:2]).power(5000))


class Needed(Base):
    def test_all_small_ones(self):
        for many, spares in itertools.product(range(3), range(3)):
            names, spare = NAMES[:many], NAMES[many:many + spares]
            if many + spares > 3:
                continue
            found = all_moves(3, names, spare)
            for order in itertools.permutations(range(many + 3)):
                move = permutation(3, many, order)
                needed = spares_needed(3, move)
                self.assertEqual(needed is not None and needed <= spares, repr(move) in found, (names, spare, move))
                block = block_for(3, names, spare, move, "c")
                self.assertEqual(block is not None, repr(move) in found)
                if block is not None:
                    self.assertEqual(block_move(3, names, spare, block), move)
                    self.assertEqual({statement[2] for statement in block if statement[0] == "new"} | {"c"}, {"c"})

    def test_greater_ones(self):
        rng = random.Random(3)
        for _ in range(300):
            many, extra = rng.randint(0, 8), rng.randint(0, 9)
            order = list(range(many + extra))
            rng.shuffle(order)
            move = permutation(5, many, order)
            fixed = [index for index in range(many, many + extra) if order[index] != index]
            needed = max(0, max(fixed) - many) if fixed else 0
            self.assertEqual(spares_needed(5, move), needed if needed <= 8 else None)
            names, spare = NAMES[:many], NAMES[many:many + rng.randint(0, 8)]
            block = block_for(5, names, spare, move, "node")
            if needed > len(spare):
                self.assertIsNone(block)
            else:
                self.assertEqual(block_move(5, names, spare, block), move)

    def test_none(self):
        for move in (Move(pool(1, 0), {1: ([], 1)}), Move(objects(1), {}), Move(objects(0), {2: (pool(2, 1, 0), 2)}),
                     Move([], {1: (objects(0), 0)}), Move([], {1: ([], 3)}), identity(9), Move(pool(2, 0), {2: (objects(0), 1)}),
                     Move(objects(1, 0), {3: (pool(3, 1, 0), 2)}), identity(10 ** 30)):
            self.assertIsNone(spares_needed(1, move))
        nine = Move([], {1: (pool(1, *([9] + list(range(1, 9)) + [0])), 10)})
        self.assertIsNone(spares_needed(1, nine))
        self.assertEqual(spares_needed(1, Move([], {1: (pool(1, *([8] + list(range(1, 8)) + [0])), 9)})), 8)
        self.assertEqual([spares_needed(1, identity(many)) for many in range(9)], [0] * 9)
        self.assertEqual([spares_needed(8, Move([], {8: (pool(8, 1, 0), 2)})), block_for(1, [], ["a", "b"], identity(0), "c")], [1, []])

    def test_moves_by_chance(self):
        rng = random.Random(4)
        for _ in range(200):
            move = made(some_move(rng, False))
            for size in range(1, 9):
                needed = spares_needed(size, move)
                fits = [("object", index) for index in range(len(move.objects()))]
                front, fresh = move.pools().get(size, ([], 0))
                fits += pool(size, *range(fresh))
                bijective = sorted(move.objects() + front) == sorted(fits) and set(move.pools()) <= {size}
                self.assertEqual(needed is not None, bijective)


class Shortest(Base):
    def test_all_small_ones(self):
        for many, spares in itertools.product(range(4), range(4)):
            if many + spares > 3:
                continue
            for names, spare in ((NAMES[:many], NAMES[many:many + spares]), (NAMES[spares:many + spares][::-1], NAMES[:spares])):
                found = all_moves(2, names, spare)
                rng = random.Random(many)
                orders = list(itertools.permutations(range(many + min(spares + 2, 4))))
                for order in rng.sample(orders, min(len(orders), 24)):
                    move = permutation(2, many, order)
                    self.assertEqual(shortest_block(2, names, spare, move, "c"), found.get(repr(move)), (names, spare, move))

    def test_more_than_three_variables(self):
        leak = Move(pool(1, 0) + objects(1, 2, 3), {1: ([], 1)})
        self.assertIsNone(shortest_block(1, NAMES[:4], [], leak, "c"))
        self.assertIsNone(shortest_block(1, NAMES[:2], NAMES[2:6], Move(objects(0, 1), {2: (pool(2, 1, 0), 2)}), "c"))
        for names, spare in ((NAMES[:4], []), ([], NAMES[:4]), (NAMES[:2], NAMES[2:4]), (NAMES[:8], NAMES[8:])):
            with self.assertRaises(LimitExceeded) as caught:
                shortest_block(1, names, spare, identity(len(names)), "c")
            self.assertEqual(caught.exception.limit, 3)
        self.assertEqual(shortest_block(1, NAMES[:3], [], identity(3), "c"), [])
        # More spare variables would be needed than there may be; so there is one with some number of variables.
        nine = Move(objects(0, 1, 2, 3), {1: (pool(1, *([9] + list(range(1, 9)) + [0])), 10)})
        self.assertEqual([spares_needed(1, nine), block_for(1, NAMES[:4], NAMES[4:12], nine, "c")], [None, None])
        with self.assertRaises(LimitExceeded):
            shortest_block(1, NAMES[:4], NAMES[4:12], nine, "c")
        self.assertIsNone(shortest_block(1, NAMES[:3], [], Move(objects(0, 1, 2), nine.pools()), "c"))
        self.assertIsNone(shortest_block(1, NAMES[:3], [], Move(objects(0, 1, 2), {1: (pool(1, 1, 0), 2)}), "c"))

    def test_the_kind_is_used(self):
        swap = Move(objects(1, 0), {})
        self.assertEqual(shortest_block(1, ["b", "a"], [], swap, "zz"), [("clear", "a"), ("new", "b", "zz"), ("new", "a", "zz")])


class Errors(Base):
    def test_sizes(self):
        fits = lambda value: type(value) is int and 1 <= value <= 8
        for value in all_but(fits):
            self.refused("size", block_move, value, value, value, value)
            self.refused("size", spares_needed, value, value)
            for call in (block_for, shortest_block):
                self.refused("size", call, value, value, value, value, value)

    def test_names_and_spare(self):
        calls = [lambda names, spare, rest: block_move(1, names, spare, rest), lambda names, spare, rest: block_for(1, names, spare, rest, rest),
                 lambda names, spare, rest: shortest_block(1, names, spare, rest, rest)]
        for call in calls:
            for value in all_but(is_list_of_names):
                self.refused("names", call, value, value, None)
                self.refused("spare", call, ["y"], value, None)
            for value in all_but(is_fine_name):
                self.refused("names", call, [value], [], None)
                self.refused("spare", call, ["a"], [value], None)
            self.refused("names", call, ["a", "a"], [], None)
            self.refused("names", call, NAMES[:9], [], None)
            self.refused("spare", call, ["a"], ["b", "a"], None)
            self.refused("spare", call, ["a"], ["b", "b"], None)
            self.refused("spare", call, [], NAMES[:9], None)

    def test_blocks(self):
        for value in all_but(lambda value: isinstance(value, list) and value == []):
            self.refused("block", block_move, 1, ["y"], [], value)
            self.refused("block", block_move, 1, ["y"], [], [("clear", "y"), value])
        for statement in (("new", "y"), ("clear", "y", "c"), ("clear", "z"), ("new", "z", "c"), ("new", "y", "C"), ("new", "y", None),
                          ("copy", "y", "y"), ["clear", "y"], ("clear",), (["clear"], "y"), ("clear", ["y"]), ("new", "y", "c", "c")):
            self.refused("block", block_move, 1, ["y"], [], [statement])

    def test_moves_and_kinds(self):
        for call in (block_for, shortest_block):
            for value in all_but(lambda value: isinstance(value, Move)):
                self.refused("move", call, 1, ["a"], [], value, None)
            self.refused("move", call, 1, ["a"], [], identity(2), None)
            self.refused("move", call, 1, ["a"], [], identity(0), None)
            self.refused("move", call, 1, ["a"], [], identity(10 ** 30), None)
            for value in all_but(is_fine_name):
                self.refused("kind", call, 1, ["a"], [], identity(1), value)
        for value in all_but(lambda value: isinstance(value, Move)):
            self.refused("move", spares_needed, 1, value)

    def test_nothing_is_changed(self):
        names, spare, block = ["a", "b"], ["d"], [("new", "d", "c"), ("new", "b", "c"), ("clear", "d")]
        move = block_move(1, names, spare, block)
        block_for(1, names, spare, move, "c").append(1)
        shortest_block(1, names, spare, move, "c").append(1)
        self.assertEqual([names, spare, len(block)], [["a", "b"], ["d"], 3])
        self.assertGreater(len(odd_values()), 0)


if __name__ == "__main__":
    unittest.main()
