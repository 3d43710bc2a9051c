"""Plans unfolded: the first rooms of the house that a plan tells."""

from fankinds.bounds import ROOMS
from fankinds.errors import TooGreat


def unfolded(book, plan, deep):
    """The begun house of the rooms of a right plan to so many ways from the first one."""
    sorts = [0]
    ways = []
    first = 0
    for step in range(deep):
        last = len(sorts)
        for room in range(first, last):
            on = plan[sorts[room]][2]
            for name, side, many, further in on:
                # Many may be of any size, so it is asked ahead of all making.
                if len(sorts) + many > ROOMS:
                    raise TooGreat(ROOMS)
                ways.extend([way_from(name, side, room, len(sorts) + more) for more in range(many)])
                sorts.extend([further] * many)
        first = last
    return (tuple([plan[sort][0] for sort in sorts]), tuple(sorted(ways)))


def way_from(name, side, room, further):
    """The way between a room and a further one, by the side seen from the room."""
    return (name, room, further) if side == "out" else (name, further, room)
