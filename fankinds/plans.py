"""Plans: houses, most of which go on for ever, told by the sorts of their rooms."""

from fankinds.books import SIDES, door_called, end_of, fan_at, other_side
from fankinds.errors import HasRow
from fankinds.forms import is_number, is_rising, is_tuple_of
from fankinds.houses import lets
from fankinds.rows import above, is_full_lot, row_to


def right_plan(book, low, high, thing):
    """Whether anything is a plan that is right for low and high."""
    if not isinstance(thing, tuple) or len(thing) == 0:
        return False
    if not all([is_sort(book, len(thing), sort) for sort in thing]):
        return False
    return begins_right(thing, low, high) and all([is_tied_right(book, thing, sort) for sort in thing])


def is_sort(book, many, thing):
    """Whether anything is a sort (lot, came, on) of a plan of so many."""
    if not is_tuple_of(thing, 3):
        return False
    lot, came, on = thing
    return is_full_lot(book, lot) and (came is None or is_came(book, came)) and is_on(book, many, on)


def is_came(book, thing):
    """Whether anything is (door, side)."""
    return is_tuple_of(thing, 2) and door_called(book, thing[0]) is not None and thing[1] in SIDES


def is_on(book, many, thing):
    """Whether anything is what a sort of a plan of so many has as its on."""
    if not isinstance(thing, tuple) or not all([is_further(book, many, entry) for entry in thing]):
        return False
    # Where doors and sides rise, the entries do, and none is twice in door and side.
    return is_rising([entry[:2] for entry in thing])


def is_further(book, many, thing):
    """Whether anything is (door, side, many, sort), of a plan of so many sorts."""
    if not is_tuple_of(thing, 4) or not is_came(book, thing[:2]):
        return False
    return is_number(thing[2]) and thing[2] >= 1 and is_number(thing[3]) and 0 <= thing[3] < many


def begins_right(plan, low, high):
    """Whether sort 0 has low, hasn't high and came by no way, and all others came by one."""
    lot, came, on = plan[0]
    return low in lot and high not in lot and came is None and all([sort[1] is not None for sort in plan[1:]])


def is_tied_right(book, plan, sort):
    """Whether the sort's ways lead to sorts that came by them, and are as many as the fans tell."""
    if not all([plan[further][1] == (name, other_side(side)) for name, side, many, further in sort[2]]):
        return False
    return all([has_as_many(sort, door, side) for door in book[2] for side in SIDES])


def has_as_many(sort, door, side):
    """Whether a room of the sort has as many ways on that side of the door as it is let have."""
    lot, came, on = sort
    many = sum([entry[2] for entry in on if entry[:2] == (door[0], side)]) + came_by(came, door, side)
    return lets(fan_at(door, side), many) if end_of(door, side) in lot else many == 0


def came_by(came, door, side):
    """How many ways on that side of the door lead to the room ahead: 1 or 0."""
    return 1 if came == (door[0], side) else 0


def plan_of(book, low, high):
    """A right plan for low and high, where no row leads there."""
    row = row_to(book, low, high)
    if row is not None:
        raise HasRow(row)
    places = {}
    sorts = [(low, None)]
    for door in book[2]:
        for side in SIDES:
            places[(door[0], side)] = len(sorts)
            sorts.append((end_of(door, side), (door[0], side)))
    return tuple([fewest_sort(book, places, kind, came) for kind, came in sorts])


def fewest_sort(book, places, kind, came):
    """The sort of a room of the kind that came by that, with no more kinds and ways than it must have."""
    lot = above(book, kind)
    on = []
    for door in book[2]:
        for side in SIDES:
            many = fan_at(door, side)[0] - came_by(came, door, side)
            if end_of(door, side) in lot and many > 0:
                on.append((door[0], side, many, places[(door[0], other_side(side))]))
    return (lot, came, tuple(sorted(on)))
