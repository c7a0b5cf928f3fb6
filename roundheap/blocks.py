"""Blocks of new and clear, and the moves of addresses that they make."""

from roundheap.checks import is_name, is_one_of, is_size, is_word
from roundheap.errors import InvalidArgument, LimitExceeded
from roundheap.moves import Move

MOST_NAMES = 8
MOST_SEARCHED = 3


class Bench:
    """Variables and a pool: `held` has (place of the address, when made) of variables that are not nil.

    `free` are the places of the free addresses that were named so far, the first one to be taken last; `fresh` is
    the index in the pool from which on no address was taken.
    """

    def __init__(self, size, names):
        self.size = size
        self.held = {name: (("object", index), index) for index, name in enumerate(names)}
        self.free = []
        self.fresh = 0
        self.births = len(names)


def is_list_of_names(value, barred):
    if not isinstance(value, list) or len(value) > MOST_NAMES:
        return False
    seen = {}
    for name in value:
        if not is_name(name) or name in seen or name in barred:
            return False
        seen[name] = True
    return True


def check_variables(size, names, spare):
    if not is_size(size):
        raise InvalidArgument("size")
    if not is_list_of_names(names, []):
        raise InvalidArgument("names")
    if not is_list_of_names(spare, names):
        raise InvalidArgument("spare")


def is_block_statement(value, names):
    if not isinstance(value, tuple) or len(value) < 2 or not is_one_of(value[1], names):
        return False
    if len(value) == 2:
        return is_word(value[0], "clear")
    return len(value) == 3 and is_word(value[0], "new") and is_name(value[2])


def clear_on(bench, name):
    if name in bench.held:
        place, _ = bench.held.pop(name)
        bench.free.append(place)


def new_on(bench, name):
    """The object is made before the old one is let go."""
    if bench.free:
        place = bench.free.pop()
    else:
        place = ("pool", bench.size, bench.fresh)
        bench.fresh += 1
    clear_on(bench, name)
    bench.held[name] = (place, bench.births)
    bench.births += 1


def move_on(bench, names):
    """The move of a bench; None if not just these variables have objects, in this order of creation."""
    if len(bench.held) != len(names) or not all([name in bench.held for name in names]):
        return None
    births = [bench.held[name][1] for name in names]
    if births != sorted(births):
        return None
    return Move([bench.held[name][0] for name in names], {bench.size: (bench.free[::-1], bench.fresh)})


def block_move(size, names, spare, block):
    """The move of a block; None if the variables are not as before behind it."""
    check_variables(size, names, spare)
    if not isinstance(block, list) or not all([is_block_statement(value, names + spare) for value in block]):
        raise InvalidArgument("block")
    bench = Bench(size, names)
    for statement in block:
        if statement[0] == "new":
            new_on(bench, statement[1])
        else:
            clear_on(bench, statement[1])
    return move_on(bench, names)


def is_among(place, many, size, fresh):
    """Whether a place is one of so many objects, or of the first places of a pool."""
    if place[0] == "object":
        return place[1] < many
    return place[1] == size and place[2] < fresh


def spares_for(size, move):
    """How many spare variables a block with a move needs, if there may be any number; None if there is none."""
    pools = move.pools()
    many = move._plan.many
    # A move may have more objects than a list.
    if many > MOST_NAMES or not all([other == size for other in pools]):
        return None
    front, fresh = pools[size] if size in pools else ([], 0)
    if len(front) != fresh:
        return None
    # As many places come from others as there are: if those are the same ones, it is a permutation.
    if not all([is_among(place, many, size, fresh) for place in move.objects() + front]):
        return None
    return max(fresh - 1, 0)


def spares_needed(size, move):
    """The least number of spare variables with which there is a block with a move; None if there is none."""
    if not is_size(size):
        raise InvalidArgument("size")
    if not isinstance(move, Move):
        raise InvalidArgument("move")
    spares = spares_for(size, move)
    return None if spares is None or spares > MOST_NAMES else spares


def check_wish(size, names, spare, move, kind):
    check_variables(size, names, spare)
    if not isinstance(move, Move) or move._plan.many != len(names):
        raise InvalidArgument("move")
    if not is_name(kind):
        raise InvalidArgument("kind")


def exchanges(size, names, helpers, move):
    """The variables whose objects are to be made anew one after the other, so that all addresses come to their places.

    The helpers have the first addresses of the pool; the address behind those is the hub, with which each variable
    exchanges its own one.
    """
    last = [("object", index) for index in range(len(names))]
    last.extend([("pool", size, index) for index in range(len(helpers) + 1)])
    wanted = [move.origin(place) for place in last]
    hub = len(last) - 1
    # At the end the objects of names are made anew in order, which is undone here ahead of it.
    for index in reversed(range(len(names))):
        wanted[index], wanted[hub] = wanted[hub], wanted[index]
    now = list(last)
    order = []
    for index in range(hub):
        if now[index] == wanted[index]:
            continue
        if now[hub] != wanted[index]:
            other = now.index(wanted[index])
            now[other], now[hub] = now[hub], now[other]
            order.append(other)
        now[index], now[hub] = now[hub], now[index]
        order.append(index)
    variables = names + helpers
    return [variables[index] for index in order]


def block_for(size, names, spare, move, kind):
    """A block with a move; None if there is none with these variables."""
    check_wish(size, names, spare, move, kind)
    spares = spares_for(size, move)
    if spares is None or spares > len(spare):
        return None
    if not names and not spares:
        return []
    helpers = spare[:spares]
    block = [("new", name, kind) for name in helpers]
    block.extend([("new", name, kind) for name in exchanges(size, names, helpers, move)])
    block.extend([("new", name, kind) for name in names])
    # The first address of the pool is let go last.
    block.extend([("clear", name) for name in helpers[::-1]])
    return block


def copied_bench(bench):
    copy = Bench(bench.size, [])
    copy.held = {name: bench.held[name] for name in bench.held}
    copy.free = list(bench.free)
    copy.fresh = bench.fresh
    copy.births = bench.births
    return copy


def look_of(bench, variables):
    """What is the same for benches with the same future: which of the objects are older, but not since when."""
    births = sorted([bench.held[name][1] for name in bench.held])
    held = []
    for name in variables:
        held.append((bench.held[name][0], births.index(bench.held[name][1])) if name in bench.held else None)
    return (tuple(held), tuple(bench.free), bench.fresh)


def searched_block(size, names, spare, move, kind):
    """The least of the shortest blocks: shorter ones first, and of these the lesser ones, in the order of lists."""
    variables = sorted(names + spare)
    steps = [("clear", name) for name in variables] + [("new", name, kind) for name in variables]
    begin = Bench(size, names)
    seen = {look_of(begin, variables): True}
    ways = [(begin, [])]
    while ways:
        further = []
        for bench, block in ways:
            if move_on(bench, names) == move:
                return block
            for step in steps:
                after = copied_bench(bench)
                if step[0] == "new":
                    new_on(after, step[1])
                else:
                    clear_on(after, step[1])
                look = look_of(after, variables)
                if look not in seen:
                    seen[look] = True
                    further.append((after, block + [step]))
        ways = further
    return None


def shortest_block(size, names, spare, move, kind):
    """The least of the shortest blocks with a move; None if there is none."""
    check_wish(size, names, spare, move, kind)
    if spares_for(size, move) is None:
        return None
    if len(names) + len(spare) > MOST_SEARCHED:
        raise LimitExceeded(MOST_SEARCHED)
    return searched_block(size, names, spare, move, kind)
