"""The deeds of a hall, each told by what stands ahead of it and what stands behind it.

What stands is (book, rooms, ways, coming): rooms are (number, lot), rising, by the numbers that stay their own; ways
are by these numbers; coming is the number of the next room. A deed here tells (what stands behind it, what it tells).
"""

from fankinds.books import SIDES, door_called
from fankinds.bounds import BATCH, DOORS, KINDS, RULES
from fankinds.errors import (
    BadFan, BadLot, BadName, BadSide, Full, InUse, NoDoor, NoKind, NoRoom, NoRule, NoWay, Same, Taken,
)
from fankinds.forms import is_fan, is_lot, is_name, is_number


def new_kind(stand, name):
    """A kind more."""
    kinds, rules, doors = stand[0]
    if not is_name(name):
        raise BadName()
    if name in kinds:
        raise Taken(name)
    if len(kinds) >= KINDS:
        raise Full(KINDS)
    return by_book(stand, (tuple(sorted(kinds + (name,))), rules, doors))


def drop_kind(stand, name):
    """A kind less."""
    kinds, rules, doors = stand[0]
    want_kind(stand, name)
    if len(kinds) == 1 or has_use(stand, name):
        raise InUse()
    return by_book(stand, (without(kinds, name), rules, doors))


def new_rule(stand, low, high):
    """A rule more."""
    kinds, rules, doors = stand[0]
    want_kind(stand, low)
    want_kind(stand, high)
    if low == high:
        raise Same()
    if (low, high) in rules:
        raise Taken((low, high))
    if len(rules) >= RULES:
        raise Full(RULES)
    return by_book(stand, (kinds, tuple(sorted(rules + ((low, high),))), doors))


def drop_rule(stand, low, high):
    """A rule less."""
    kinds, rules, doors = stand[0]
    if (low, high) not in rules:
        raise NoRule()
    return by_book(stand, (kinds, without(rules, (low, high)), doors))


def new_door(stand, name, start, goal, out, into):
    """A door more."""
    kinds, rules, doors = stand[0]
    if not is_name(name):
        raise BadName()
    if door_called(stand[0], name) is not None:
        raise Taken(name)
    want_kind(stand, start)
    want_kind(stand, goal)
    want_fan("out", out)
    want_fan("into", into)
    if len(doors) >= DOORS:
        raise Full(DOORS)
    return by_book(stand, (kinds, rules, tuple(sorted(doors + ((name, start, goal, out, into),)))))


def drop_door(stand, name):
    """A door less."""
    kinds, rules, doors = stand[0]
    door = wanted_door(stand, name)
    if name in [way[0] for way in stand[2]]:
        raise InUse()
    return by_book(stand, (kinds, rules, without(doors, door)))


def set_fan(stand, name, side, fan):
    """Another fan on one side of a door."""
    kinds, rules, doors = stand[0]
    door = wanted_door(stand, name)
    if side not in SIDES:
        raise BadSide()
    want_fan(side, fan)
    changed = door[:3] + ((fan, door[4]) if side == "out" else (door[3], fan))
    return by_book(stand, (kinds, rules, tuple(sorted(without(doors, door) + (changed,)))))


def put(stand, lot):
    """A room more; its number is told."""
    book, rooms, ways, coming = stand
    if not is_lot(book, lot):
        raise BadLot()
    return ((book, rooms + ((coming, lot),), ways, coming + 1), coming)


def strike(stand, room):
    """A room less; its number comes no more."""
    book, rooms, ways, coming = stand
    want_room(stand, room)
    if any([room in way[1:] for way in ways]):
        raise InUse()
    return ((book, tuple([entry for entry in rooms if entry[0] != room]), ways, coming), None)


def tie(stand, name, one, other):
    """A way more."""
    book, rooms, ways, coming = stand
    wanted_door(stand, name)
    want_room(stand, one)
    want_room(stand, other)
    if (name, one, other) in ways:
        raise Taken((name, one, other))
    return ((book, rooms, tuple(sorted(ways + ((name, one, other),))), coming), None)


def untie(stand, name, one, other):
    """A way less."""
    book, rooms, ways, coming = stand
    # True is equal to 1, but no number of a room.
    if not is_number(one) or not is_number(other) or (name, one, other) not in ways:
        raise NoWay()
    return ((book, rooms, without(ways, (name, one, other)), coming), None)


ACTIONS = {
    "new_kind": new_kind,
    "drop_kind": drop_kind,
    "new_rule": new_rule,
    "drop_rule": drop_rule,
    "new_door": new_door,
    "drop_door": drop_door,
    "set_fan": set_fan,
    "put": put,
    "strike": strike,
    "tie": tie,
    "untie": untie,
}
TAKES = {
    "new_kind": 1,
    "drop_kind": 1,
    "new_rule": 2,
    "drop_rule": 2,
    "new_door": 5,
    "drop_door": 1,
    "set_fan": 3,
    "put": 1,
    "strike": 1,
    "tie": 3,
    "untie": 3,
}


def behind_deed(stand, deed):
    """What stands behind a deed, and what the deed tells."""
    action = ACTIONS[deed[0]]
    things = deed[1:]
    return action(stand, *things)


def are_deeds(thing):
    """Whether anything is a tuple of deeds, no more than can be tried at once."""
    return isinstance(thing, tuple) and len(thing) <= BATCH and all([is_deed(deed) for deed in thing])


def is_deed(thing):
    """Whether anything is a tuple of a deed's name and as many things as it takes."""
    if not isinstance(thing, tuple) or len(thing) == 0 or not isinstance(thing[0], str):
        return False
    return len(thing) - 1 == TAKES.get(thing[0])


def by_book(stand, book):
    """What stands with another book; such a deed tells nothing."""
    return ((book,) + stand[1:], None)


def without(things, left):
    """The things but the one that is left out."""
    return tuple([thing for thing in things if thing != left])


def has_use(stand, kind):
    """Whether a rule, a door or a room's lot has the kind."""
    book, rooms, ways, coming = stand
    if any([kind in rule for rule in book[1]]) or any([kind in door[1:3] for door in book[2]]):
        return True
    return any([kind in lot for number, lot in rooms])


def want_kind(stand, name):
    """Refuses anything but a kind of the book."""
    if name not in stand[0][0]:
        raise NoKind(name)


def wanted_door(stand, name):
    """The door of that name; refuses anything but the name of one."""
    door = door_called(stand[0], name)
    if door is None:
        raise NoDoor(name)
    return door


def want_fan(side, fan):
    """Refuses anything but a fan."""
    if not is_fan(fan):
        raise BadFan(side)


def want_room(stand, room):
    """Refuses anything but the number of a room."""
    lot_at(stand, room)


def lot_at(stand, room):
    """The lot of the room of that number; refuses anything but the number of one."""
    # True is equal to 1, but no number of a room.
    for number, lot in stand[1]:
        if is_number(room) and number == room:
            return lot
    raise NoRoom(room)


def house_of(stand):
    """The house that stands, its rooms numbered anew from 0."""
    book, rooms, ways, coming = stand
    places = {number: place for place, (number, lot) in enumerate(rooms)}
    anew = [(name, places[one], places[other]) for name, one, other in ways]
    return (tuple([lot for number, lot in rooms]), tuple(anew))
