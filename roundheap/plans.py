"""What is reckoned with the plans of moves: one behind the other, powers, the way back, and cycles."""

from math import lcm

from roundheap.places import (
    Plan, front_of, goal_of, inner_places, is_inner, origin_of, origins_of, shift_of,
)


def object_origins(plan):
    """The indexes of the objects that are named as an origin."""
    return [place[1] for place in origins_of(plan.heads, plan.fronts) if place[0] == "object"]


def highest_object(plan):
    """One more than the greatest index of an object that is an origin."""
    indexes = object_origins(plan)
    highest = plan.many if plan.many > len(plan.heads) else 0
    return max(highest, max(indexes) + 1) if indexes else highest


def is_round(plan):
    if highest_object(plan) > plan.many:
        return False
    return all([shift_of(plan, size) >= 0 for size in plan.fronts])


def one_then(one, later):
    """The plan of both; each object that is an origin of the later one is at the end of the first one."""
    heads = [origin_of(one, place) for place in later.heads]
    # Objects that come from themselves in the later one may be told one by one in the first one.
    heads.extend(one.heads[len(later.heads):later.many])
    fronts = {}
    for size in sorted({**one.fronts, **later.fronts}):
        front, fresh = front_of(one, size)
        begin, start = front_of(later, size)
        rest = list(front[start:])
        fronts[size] = ([origin_of(one, place) for place in begin] + rest, fresh + max(0, start - len(front)))
    return Plan(heads, later.many, fronts)


def chain_from(plan, first):
    """The inner places from one on, each followed by its origin, until the first one or no inner one follows."""
    chain = [first]
    place = origin_of(plan, first)
    while place != first and is_inner(plan, place):
        chain.append(place)
        place = origin_of(plan, place)
    return chain


def is_cycle(plan, chain):
    return origin_of(plan, chain[-1]) == chain[0]


def chains(plan):
    """All inner places in chains as long as possible: first those that end, then the cycles by their first places."""
    places = inner_places(plan)
    found = []
    seen = {}
    for place in places:
        after = goal_of(plan, place)
        if after is None or not is_inner(plan, after):
            found.append(chain_from(plan, place))
            seen.update({member: True for member in found[-1]})
    for place in places:
        if place not in seen:
            found.append(chain_from(plan, place))
            seen.update({member: True for member in found[-1]})
    return found


def cycles_in(plan):
    return [chain for chain in chains(plan) if len(chain) > 1 and is_cycle(plan, chain)]


def step_of(plan, place):
    """How far a place that is no inner one goes on in its pool with each stretch."""
    return 0 if place[0] == "object" else shift_of(plan, place[1])


def origins_along(plan, chain, count):
    """The origins of all places of a chain of a round plan, so many stretches ago."""
    length = len(chain)
    if is_cycle(plan, chain):
        return [chain[(index + count) % length] for index in range(length)]
    # No object comes from itself and from a chain: behind a chain are places of one pool, each a shift further on.
    _, size, begin = origin_of(plan, chain[-1])
    origins = []
    for index in range(length):
        far = index + count - length
        origins.append(("pool", size, begin + far * shift_of(plan, size)) if far >= 0 else chain[index + count])
    return origins


def power_of(plan, count):
    """The plan of a round one so many times: an inner place goes along its chain, then on by the shift."""
    origins = {}
    for chain in chains(plan):
        for place, origin in zip(chain, origins_along(plan, chain, count)):
            origins[place] = origin
    heads = [origins[("object", index)] for index in range(len(plan.heads))]
    fronts = {}
    for size in plan.fronts:
        length = len(plan.fronts[size][0])
        front = [origins[("pool", size, index)] for index in range(length)]
        fronts[size] = (front, length + count * shift_of(plan, size))
    return Plan(heads, plan.many, fronts)


def has_inverse(plan):
    """Whether each object up to the highest one, and each address of a pool, has a goal."""
    indexes = object_origins(plan)
    if len(indexes) + plan.many - len(plan.heads) != highest_object(plan):
        return False
    origins = [place for place in origins_of(plan.heads, plan.fronts) if place[0] == "pool"]
    named = {}
    for place in origins:
        named[place[1]] = named.get(place[1], 0) + 1
    # No place is an origin twice, and all named ones lie ahead of fresh: so their number tells.
    return all([named.get(size, 0) == plan.fronts[size][1] for size in plan.fronts])


def inverse_of(plan):
    highest = highest_object(plan)
    length = len(plan.heads) if highest == plan.many else highest
    heads = [goal_of(plan, ("object", index)) for index in range(length)]
    fronts = {}
    for size in plan.fronts:
        front, fresh = plan.fronts[size]
        fronts[size] = ([goal_of(plan, ("pool", size, index)) for index in range(fresh)], len(front))
    return Plan(heads, highest, fronts)


def order_of(plan):
    """The least power of a round plan that changes nothing; None if there is none."""
    if not all([shift_of(plan, size) == 0 for size in plan.fronts]):
        return None
    order = 1
    for chain in chains(plan):
        if not is_cycle(plan, chain):
            return None
        order = lcm(order, len(chain))
    return order


def return_of(plan, place):
    """After how many stretches of a round plan a place has its address again; None for never."""
    if not is_inner(plan, place):
        return 1 if step_of(plan, place) == 0 else None
    chain = chain_from(plan, place)
    return len(chain) if is_cycle(plan, chain) else None


def steps_to(plan, begin, place):
    """After how many stretches a place that is no inner one comes from another one; None for never."""
    step = step_of(plan, begin)
    if begin == place:
        return 0
    if step == 0 or place[0] != "pool" or place[1] != begin[1] or place[2] < begin[2]:
        return None
    count, rest = divmod(place[2] - begin[2], step)
    return count if rest == 0 else None


def meeting_of(plan, place, goal):
    """When the address at a place is at a goal, by the way back from the goal: (first, step) or None."""
    chain = chain_from(plan, goal) if is_inner(plan, goal) else []
    if place in chain:
        return (chain.index(place), len(chain) if is_cycle(plan, chain) else None)
    if chain and is_cycle(plan, chain):
        return None
    behind = origin_of(plan, chain[-1]) if chain else goal
    count = steps_to(plan, behind, place)
    if count is None:
        return None
    return (len(chain) + count, None if chain else return_of(plan, goal))
