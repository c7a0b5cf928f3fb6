"""Moves: from which places the addresses at the end of a stretch of a run come."""

from roundheap.checks import is_count, is_size
from roundheap.errors import InvalidArgument, InvalidNumber, InvalidPlace
from roundheap.places import Plan, checked_plan, goal_of, is_end, is_place, objects_of, origin_of, pools_of, shift_of
from roundheap.plans import (
    cycles_in, has_inverse, highest_object, inverse_of, is_round, meeting_of, one_then, order_of, power_of, return_of,
)


class Move:
    """A map of the places at the end of a stretch to those at its beginning; it never changes."""

    def __init__(self, objects, pools):
        # The package itself makes moves of plans, which may have more objects than a list.
        self._plan = objects if isinstance(objects, Plan) else checked_plan(objects, pools)

    def objects(self):
        return objects_of(self._plan)

    def pools(self):
        return pools_of(self._plan)

    def origin(self, place):
        if not is_place(place) or not is_end(self._plan, place):
            raise InvalidPlace(place)
        return origin_of(self._plan, place)

    def goal(self, place):
        if not is_place(place):
            raise InvalidPlace(place)
        return goal_of(self._plan, place)

    def shift(self, size):
        if not is_size(size):
            raise InvalidNumber(size)
        return shift_of(self._plan, size)

    def then(self, later):
        if not isinstance(later, Move) or highest_object(later._plan) > self._plan.many:
            raise InvalidArgument("later")
        return Move(one_then(self._plan, later._plan), None)

    def power(self, count):
        if not is_count(count):
            raise InvalidNumber(count)
        if not is_round(self._plan):
            raise InvalidArgument("move")
        return Move(power_of(self._plan, count), None)

    def inverse(self):
        if not has_inverse(self._plan):
            raise InvalidArgument("move")
        return Move(inverse_of(self._plan), None)

    def order(self):
        return order_of(self._plan) if is_round(self._plan) else None

    def cycles(self):
        return cycles_in(self._plan)

    def returns(self, place):
        if not is_place(place) or not is_end(self._plan, place):
            raise InvalidPlace(place)
        if not is_round(self._plan):
            raise InvalidArgument("move")
        return return_of(self._plan, place)

    def meets(self, place, goal):
        for value in (place, goal):
            if not is_place(value) or not is_end(self._plan, value):
                raise InvalidPlace(value)
        if not is_round(self._plan):
            raise InvalidArgument("move")
        return meeting_of(self._plan, place, goal)

    def __eq__(self, other):
        return (isinstance(other, Move) and self._plan.many == other._plan.many
                and self._plan.heads == other._plan.heads and self._plan.fronts == other._plan.fronts)

    def __repr__(self):
        return f"Move({objects_of(self._plan)!r}, {pools_of(self._plan)!r})"


def identity(count):
    """The move that leaves all as it is, with so many objects."""
    if not is_count(count):
        raise InvalidNumber(count)
    return Move(Plan([], count, {}), None)
