"""Books: kinds, rules and doors."""

from fankinds.bounds import DOORS, KINDS, RULES
from fankinds.forms import is_fan, is_name, is_rising, is_tuple_of

SIDES = ("out", "into")


def is_book(thing):
    """Whether anything is a book (kinds, rules, doors)."""
    if not is_tuple_of(thing, 3):
        return False
    kinds, rules, doors = thing
    return are_kinds(kinds) and are_rules(kinds, rules) and are_doors(kinds, doors)


def are_kinds(thing):
    """Whether anything is what a book has as its kinds."""
    if not isinstance(thing, tuple) or not 1 <= len(thing) <= KINDS:
        return False
    return all([is_name(kind) for kind in thing]) and is_rising(thing)


def are_rules(kinds, thing):
    """Whether anything is what a book of these kinds has as its rules."""
    if not isinstance(thing, tuple) or len(thing) > RULES:
        return False
    return all([is_rule(kinds, rule) for rule in thing]) and is_rising(thing)


def is_rule(kinds, thing):
    """Whether anything is a pair of two unlike ones of these kinds."""
    if not is_tuple_of(thing, 2):
        return False
    low, high = thing
    return low in kinds and high in kinds and low != high


def are_doors(kinds, thing):
    """Whether anything is what a book of these kinds has as its doors."""
    if not isinstance(thing, tuple) or len(thing) > DOORS:
        return False
    if not all([is_door(kinds, door) for door in thing]):
        return False
    return is_rising([door[0] for door in thing])


def is_door(kinds, thing):
    """Whether anything is a door (name, start, goal, out, into) between these kinds."""
    if not is_tuple_of(thing, 5):
        return False
    name, start, goal, out, into = thing
    return is_name(name) and start in kinds and goal in kinds and is_fan(out) and is_fan(into)


def door_called(book, name):
    """The door of that name, which may be anything; None where there is none."""
    for door in book[2]:
        if door[0] == name:
            return door
    return None


def other_side(side):
    """The side from which the other end of a door is seen."""
    return "into" if side == "out" else "out"


def end_of(door, side):
    """The kind whose rooms have the door's ways on that side: its start by out, its goal by into."""
    return door[1] if side == "out" else door[2]


def fan_at(door, side):
    """The door's fan on that side."""
    return door[3] if side == "out" else door[4]


def fan_of(book, name, side):
    """The fan, as told, that the door of that name has on that side."""
    return fan_at(door_called(book, name), side)
