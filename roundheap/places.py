"""Places, and the plan of a move: from which place each address at the end comes."""

from roundheap.checks import is_count, is_size, is_word
from roundheap.errors import InvalidArgument


class Plan:
    """What a move is made of, in its shortest form; it never changes.

    `heads` are the places from which the first objects come. The other ones of the `many` objects come from
    themselves, so that a plan may have any number of objects. `fronts` leads from sizes to (front, fresh), and
    `goals` from the places in these to the places that come from them.
    """

    def __init__(self, heads, many, fronts):
        self.heads = shortened_heads(heads)
        self.many = many
        self.fronts = shortened_fronts(fronts)
        self.goals = goals_in(self.heads, self.fronts)


def is_place(value):
    if not isinstance(value, tuple):
        return False
    if len(value) == 2:
        return is_word(value[0], "object") and is_count(value[1])
    return len(value) == 3 and is_word(value[0], "pool") and is_size(value[1]) and is_count(value[2])


def is_pool(value, size):
    """Whether a value is (front, fresh) of the pool of this size."""
    if not isinstance(value, tuple) or len(value) != 2:
        return False
    front, fresh = value
    if not isinstance(front, list) or not is_count(fresh):
        return False
    return all([is_place(place) and (place[0] == "object" or place[1] == size) for place in front])


def are_pools(value):
    return isinstance(value, dict) and all([is_size(size) and is_pool(value[size], size) for size in value])


def origins_of(heads, fronts):
    """All places that are named as an origin."""
    origins = list(heads)
    for size in fronts:
        origins.extend(fronts[size][0])
    return origins


def fresh_of(fronts, size):
    """The first place of a pool from which on each place is an origin."""
    return fronts[size][1] if size in fronts else 0


def has_origin_twice(heads, fronts):
    seen = {}
    for place in origins_of(heads, fronts):
        if place in seen or place[0] == "pool" and place[2] >= fresh_of(fronts, place[1]):
            return True
        seen[place] = True
    return False


def checked_plan(objects, pools):
    """The plan of the arguments of a move, which may be of any kind."""
    if not isinstance(objects, list) or not all([is_place(place) for place in objects]):
        raise InvalidArgument("objects")
    if not are_pools(pools):
        raise InvalidArgument("pools")
    if has_origin_twice(objects, pools):
        raise InvalidArgument("places")
    return Plan(objects, len(objects), pools)


def shortened_heads(heads):
    length = len(heads)
    while length > 0 and heads[length - 1] == ("object", length - 1):
        length -= 1
    return tuple(heads[:length])


def shortened_fronts(fronts):
    pools = {}
    for size in sorted(fronts):
        front, fresh = fronts[size]
        length = len(front)
        while length > 0 and front[length - 1] == ("pool", size, fresh - 1):
            length -= 1
            fresh -= 1
        if fresh > 0 or length > 0:
            pools[size] = (tuple(front[:length]), fresh)
    return pools


def goals_in(heads, fronts):
    goals = {}
    for index, place in enumerate(heads):
        goals[place] = ("object", index)
    for size in fronts:
        for index, place in enumerate(fronts[size][0]):
            goals[place] = ("pool", size, index)
    return goals


def objects_of(plan):
    places = list(plan.heads)
    places.extend([("object", index) for index in range(len(plan.heads), plan.many)])
    return places


def pools_of(plan):
    return {size: (list(plan.fronts[size][0]), plan.fronts[size][1]) for size in sorted(plan.fronts)}


def front_of(plan, size):
    """(front, fresh) of a pool, also of one that is as at the beginning."""
    return plan.fronts[size] if size in plan.fronts else ((), 0)


def shift_of(plan, size):
    front, fresh = front_of(plan, size)
    return fresh - len(front)


def is_end(plan, place):
    """Whether there is such a place at the end."""
    return place[0] == "pool" or place[1] < plan.many


def is_inner(plan, place):
    """Whether the origin of a place is told one by one; those of all others follow a rule."""
    if place[0] == "object":
        return place[1] < len(plan.heads)
    return place[2] < len(front_of(plan, place[1])[0])


def origin_of(plan, place):
    if place[0] == "object":
        return plan.heads[place[1]] if place[1] < len(plan.heads) else place
    front, fresh = front_of(plan, place[1])
    if place[2] < len(front):
        return front[place[2]]
    return ("pool", place[1], fresh + place[2] - len(front))


def goal_of(plan, place):
    if place in plan.goals:
        return plan.goals[place]
    if place[0] == "object":
        return place if len(plan.heads) <= place[1] < plan.many else None
    front, fresh = front_of(plan, place[1])
    return ("pool", place[1], place[2] - fresh + len(front)) if place[2] >= fresh else None


def inner_places(plan):
    """The places that are told one by one: objects by index, then pools by size and index."""
    places = [("object", index) for index in range(len(plan.heads))]
    for size in sorted(plan.fronts):
        places.extend([("pool", size, index) for index in range(len(plan.fronts[size][0]))])
    return places
