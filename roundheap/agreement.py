"""How far two rows of entries agree, told by what they are made of.

A SIDE is (row, at, endless): the entries of a row from an index on; an endless row comes again and again. Two
endless rows that agree for as many entries as their periods have together agree for ever, and both then have the
greatest common divisor as a period. What is learned so is kept in two dicts: `links` leads from a row to
(another one, shift), with which it agrees for ever if that one begins so much further on; `periods` from a row
without a link to its least known period.
"""

from math import gcd

from roundheap.rows import listed, listed_rounds, part_index


def settled(side, many):
    """The same entries told by the least row in which the next ones lie."""
    row, at, endless = side
    while True:
        if row.base is not None:
            row, at, endless = row.base, at % row.base.extent, True
        if endless and at + many > row.extent:
            return (row, at, True)
        endless = False
        if not row.parts:
            return (row, at, False)
        index = part_index(row, at)
        if row.begins[index] + row.parts[index].extent < at + many:
            return (row, at, False)
        row, at = row.parts[index], at - row.begins[index]


def rooted(links, periods, side):
    """An endless side, told by the row to which the links lead."""
    row, at, _ = side
    while row in links:
        row, shift = links[row]
        at = at + shift
    return (row, at % periods.get(row, row.extent), True)


def needed(periods, left, right):
    """After how many entries two endless sides agree for ever; 0 if it is known that they do."""
    one = periods.get(left[0], left[0].extent)
    other = periods.get(right[0], right[0].extent)
    if left[0] == right[0]:
        return 0 if left[1] == right[1] else one
    return one + other - gcd(one, other)


def is_lower(one, other):
    """Whether a row may have links to it from another one: links lead to no longer row, so they come to an end."""
    if one.extent != other.extent:
        return one.extent < other.extent
    return len(one.parts) <= len(other.parts)


def lesson(periods, left, right):
    """What to learn of endless sides that agree for ever: (upper row, lower row, shift, period of the lower)."""
    if not is_lower(left[0], right[0]):
        left, right = right, left
    one = periods.get(left[0], left[0].extent)
    if left[0] == right[0]:
        return (left[0], left[0], 0, gcd(one, left[1] - right[1]))
    other = periods.get(right[0], right[0].extent)
    return (right[0], left[0], left[1] - right[1], gcd(one, other))


def splits_left(left, right):
    """Whether to split the left one of two sides: one of several parts, else the longer endless one."""
    if left[2] and right[2]:
        return left[0].extent >= right[0].extent
    return not left[2]


def first_piece(side, many):
    """A side split: (side of the first piece, its length, side of the rest)."""
    row, at, endless = side
    if endless:
        return ((row, at, False), min(many, row.extent - at), (row, 0, True))
    index = part_index(row, at)
    end = row.begins[index] + row.parts[index].extent
    length = min(many, end - at)
    return ((row.parts[index], at - row.begins[index], False), length, (row, at + length, False))


def advanced(side, length):
    row, at, endless = side
    return (row, (at + length) % row.extent, True) if endless else (row, at + length, False)


def split_task(begin, left, right, length):
    """A task split behind the first piece of one of its sides; what is to be done first stands last."""
    if splits_left(left, right):
        piece, size, rest = first_piece(left, length)
        now = (begin, piece, right, size)
        later = (begin + size, rest, advanced(right, size), length - size)
    else:
        piece, size, rest = first_piece(right, length)
        now = (begin, left, piece, size)
        later = (begin + size, advanced(left, size), rest, length - size)
    return [later, now] if size < length else [now]


def is_leaf(side):
    return not side[2] and side[0].leaf is not None


def listed_side(side, skip, many):
    row, at, endless = side
    if endless:
        return listed_rounds(row, at + skip, at + skip + many)
    return listed(row, at + skip, at + skip + many)


def same_entries(left, right, many):
    """How many of the next entries are the same, one by one: chunks, so that an early difference is found soon."""
    done = 0
    chunk = 32
    while done < many:
        length = min(chunk, many - done)
        ones = listed_side(left, done, length)
        others = listed_side(right, done, length)
        if ones != others:
            for one, other in zip(ones, others):
                if one != other:
                    return done
                done = done + 1
        done = done + length
        chunk = chunk * 4
    return many


def agreed(one, first, other, second, many):
    """How many of the next entries of two rows, up to so many, are the same."""
    links = {}
    periods = {}
    tasks = []
    if many > 0:
        tasks.append((0, (one, first, False), (other, second, False), many))
    while tasks:
        # A task of no entries is one to learn from: the tasks that it stood behind found no difference.
        begin, left, right, length = tasks.pop()
        if length == 0:
            upper, lower, shift, period = lesson(periods, rooted(links, periods, left), rooted(links, periods, right))
            periods[lower] = period
            if upper != lower:
                links[upper] = (lower, shift)
            continue
        left = settled(left, length)
        right = settled(right, length)
        if left == right:
            continue
        if left[2] and right[2]:
            left = rooted(links, periods, left)
            right = rooted(links, periods, right)
            least = needed(periods, left, right)
            if least == 0:
                continue
            if least <= length:
                tasks.append((begin, left, right, 0))
                length = least
        elif is_leaf(left) or is_leaf(right):
            same = same_entries(left, right, length)
            if same < length:
                return begin + same
            continue
        tasks.extend(split_task(begin, left, right, length))
    return many
