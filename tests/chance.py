"""Moves and words by chance, with what they must be told in the plainest way."""

from roundheap.moves import Move
from roundheap.words import Word

ENTRIES = [("emit", "a"), ("emit", "b"), ("final", "a"), ("emit", None)]


def objects(*indexes):
    return [("object", index) for index in indexes]


def pool(size, *indexes):
    return [("pool", size, index) for index in indexes]


def some_move(rng, round_only):
    """(objects, pools) of a move: places that are dealt out to objects and fronts."""
    many = rng.randint(0, 5)
    sizes = rng.sample(range(1, 9), rng.randint(0, 2))
    pools = {}
    free = objects(*range(many if round_only else many + rng.randint(0, 3)))
    left = {}
    for size in sizes:
        length = rng.randint(0, 4)
        fresh = length + rng.randint(0, 2) if round_only else rng.randint(0, 5)
        left[size] = pool(size, *range(fresh))
        pools[size] = ([None] * length, fresh)
    heads = []
    for size in [0] * many + [size for size in sizes for _ in pools[size][0]]:
        # Objects may come from each pool, the places of a pool from this one alone.
        ways = free + [place for other in sizes if size in (0, other) for place in left[other]]
        if not ways:
            return some_move(rng, round_only)
        place = rng.choice(ways)
        (free if place[0] == "object" else left[place[1]]).remove(place)
        if size == 0:
            heads.append(place)
        else:
            pools[size][0][pools[size][0].index(None)] = place
    return heads, pools


def plain_origin(move, place):
    """The origin of a place by the words of the document; None if there is no such place."""
    heads, pools = move
    if place[0] == "object":
        return heads[place[1]] if place[1] < len(heads) else None
    front, fresh = pools.get(place[1], ([], 0))
    return front[place[2]] if place[2] < len(front) else ("pool", place[1], fresh + place[2] - len(front))


def ends(move, behind=12):
    """The places at the end of a move: all objects, and the first addresses of all pools."""
    return objects(*range(len(move[0]))) + [place for size in range(1, 9) for place in pool(size, *range(behind))]


def made(move):
    return Move(list(move[0]), {size: (list(front), fresh) for size, (front, fresh) in move[1].items()})


def some_word(rng, kinds, size, depth):
    """(word, list of its entries)"""
    chance = rng.random()
    if size <= 1 or chance < 0.3:
        row = [rng.choice(ENTRIES[:kinds]) for _ in range(rng.randint(0, 4))]
        return Word(row), row
    if chance < 0.6:
        one = some_word(rng, kinds, size // 2, depth)
        other = some_word(rng, kinds, size - size // 2, depth)
        return one[0] + other[0], one[1] + other[1]
    one = some_word(rng, kinds, size - 1, depth - 1)
    if chance < 0.85 and depth > 0:
        times = rng.choice([0, 1, 2, 2, 3, 3, 5, 8]) if len(one[1]) < 300 else 1
        return one[0] * times, one[1] * times
    first = rng.randint(0, len(one[1]))
    last = rng.randint(first, len(one[1]))
    return one[0].cut(first, last), one[1][first:last]


def some_words(rng, kinds, many):
    """Pairs (word, list of its entries) that are made of one another, so that they share what they are made of."""
    made = []
    for _ in range(2):
        row = [rng.choice(ENTRIES[:kinds]) for _ in range(rng.randint(1, 3))] * rng.choice([1, 1, 2, 3])
        made.append((Word(row), row, 0))
    while len(made) < many:
        word, row, depth = rng.choice(made)
        chance = rng.random()
        if chance < 0.4:
            other, second, more = rng.choice(made)
            made.append((word + other, row + second, max(depth, more)))
        elif chance < 0.7 and depth < 5 and len(row) < 200:
            times = rng.choice([2, 3, 4, 7])
            made.append((word * times, row * times, depth + 1))
        else:
            first = rng.randint(0, min(len(row), 9))
            last = rng.randint(first, len(row))
            made.append((word.cut(first, last), row[first:last], depth))
    return [(word, row) for word, row, _ in made]


def rounds_at(row, length):
    """How many entries from the beginning on have a period."""
    many = length
    while many < len(row) and row[many] == row[many - length]:
        many += 1
    return many


def word_for(rng, row, depth):
    """A word of the entries of a row, made by products, sums and cuts as they come."""
    if len(row) <= 1 or rng.random() < 0.15:
        return Word(row)
    if depth > 0 and rng.random() < 0.7:
        for length in [rng.randint(1, max(1, len(row) // 2))] + list(range(1, 9)):
            many = rounds_at(row, length) if 2 * length <= len(row) else 0
            if many < 2 * length:
                continue
            more = rng.choice([0, 0, 1, 3])
            word = word_for(rng, row[:length], depth - 1) * (many // length + more)
            end = min(many, word.length())
            return word.cut(0, end) + word_for(rng, row[end:], depth)
    end = rng.randint(1, len(row) - 1)
    return word_for(rng, row[:end], depth) + word_for(rng, row[end:], depth)


def row_of_rounds(rng, kinds, depth):
    """A list of entries with many repeats within repeats."""
    if depth == 0:
        return [rng.choice(ENTRIES[:kinds]) for _ in range(rng.randint(1, 4))]
    row = []
    for _ in range(rng.randint(1, 3)):
        row += row_of_rounds(rng, kinds, depth - 1) * rng.choice([1, 1, 2, 3, 5, 9])
    return row[:900]


def agreement(one, first, other, second):
    """How many entries agree, one by one."""
    many = 0
    while first + many < len(one) and second + many < len(other) and one[first + many] == other[second + many]:
        many += 1
    return many
