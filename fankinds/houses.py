"""Houses: rooms and ways, and whether they are as a book lets."""

from fankinds.books import SIDES, door_called, end_of, fan_at
from fankinds.bounds import ROOMS
from fankinds.forms import is_lot, is_number, is_rising, is_tuple_of


def is_house(book, thing):
    """Whether anything is a house (rooms, ways), of the book or only begun."""
    if not is_tuple_of(thing, 2):
        return False
    rooms, ways = thing
    return are_rooms(book, rooms) and are_ways(book, len(rooms), ways)


def are_rooms(book, thing):
    """Whether anything is what a house has as its rooms."""
    if not isinstance(thing, tuple) or len(thing) > ROOMS:
        return False
    return all([is_lot(book, lot) for lot in thing])


def are_ways(book, many, thing):
    """Whether anything is what a house of so many rooms has as its ways."""
    if not isinstance(thing, tuple):
        return False
    names = [door[0] for door in book[2]]
    return all([is_way(names, many, way) for way in thing]) and is_rising(thing)


def is_way(names, many, thing):
    """Whether anything is a way by a door of these names between two of so many rooms."""
    if not is_tuple_of(thing, 3):
        return False
    name, one, other = thing
    return name in names and is_room(many, one) and is_room(many, other)


def is_room(many, thing):
    """Whether anything is the number of one of so many rooms."""
    return is_number(thing) and 0 <= thing < many


def wrong_in(book, house):
    """The first that isn't as the book lets; None where it is a house of the book."""
    return wrong_by_rules(book, house) or wrong_by_ends(book, house) or wrong_by_fans(book, house)


def wrong_by_rules(book, house):
    """The first room that is of a rule's low and not of its high, rule by rule; or None."""
    for low, high in book[1]:
        for room, lot in enumerate(house[0]):
            if low in lot and high not in lot:
                return ("rule", low, high, room)
    return None


def wrong_by_ends(book, house):
    """The first way that doesn't lead from a room of its door's start to one of its goal; or None."""
    rooms, ways = house
    for name, one, other in ways:
        door = door_called(book, name)
        if door[1] not in rooms[one] or door[2] not in rooms[other]:
            return ("ends", name, one, other)
    return None


def wrong_by_fans(book, house):
    """The first room with too few or too many ways, door by door, out ahead of into; or None."""
    for door in book[2]:
        for side in SIDES:
            wrong = wrong_at(door, side, house)
            if wrong is not None:
                return wrong
    return None


def wrong_at(door, side, house):
    """The least room that has other than as many ways on that side of the door as its fan tells; or None."""
    many = ways_at(house, door[0], side)
    for room, lot in enumerate(house[0]):
        if end_of(door, side) in lot and not lets(fan_at(door, side), many[room]):
            return (side, door[0], room, many[room])
    return None


def lets(fan, many):
    """Whether the fan lets a room have so many ways."""
    low, high = fan
    return low <= many and (high is None or many <= high)


def ways_at(house, name, side):
    """For each room how many ways it has on that side of the door of that name."""
    many = [0 for lot in house[0]]
    for door, one, other in house[1]:
        if door == name:
            many[one if side == "out" else other] += 1
    return many


def counts(book, house):
    """For each kind, in order, how many rooms are of it."""
    return tuple([len([lot for lot in house[0] if kind in lot]) for kind in book[0]])
