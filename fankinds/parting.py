"""Partings: a house that ends with a room of one kind that isn't of another."""

from fankinds.bare import living
from fankinds.bounds import ROOMS
from fankinds.dealing import nested_rooms, ways_among
from fankinds.errors import NoParting, TooGreat
from fankinds.forms import is_tuple_of
from fankinds.least import raised
from fankinds.numbers import are_numbers, by_kind, stands
from fankinds.raising import needs_of, raises_from
from fankinds.rows import is_full_lot
from fankinds.turned import lot_of


def right_parting(book, low, high, thing):
    """Whether anything is a parting of low from high."""
    if not is_tuple_of(thing, 2):
        return False
    lot, numbers = thing
    if not is_full_lot(book, lot) or low not in lot or high in lot:
        return False
    return are_numbers(book, numbers) and stands(book, numbers) and leaves_room(book, lot, numbers)


def leaves_room(book, lot, numbers):
    """Whether by numbers that stand there can be a room of just the lot."""
    many = by_kind(book, numbers)
    if not all([many[kind] > 0 for kind in lot]):
        return False
    return all([many[low] < many[high] for low, high in rules_into(book, lot)])


def rules_into(book, lot):
    """The rules from a kind outside the lot to one of it."""
    return [(low, high) for low, high in book[1] if low not in lot and high in lot]


def parting(book, low, high):
    """The parting of low from high with lot_of(low) and the least such numbers; None where there is none."""
    if low not in living(book):
        return None
    lot = lot_of(book, low)
    if high in lot:
        return None
    needs = needs_of(book)
    for less, more in rules_into(book, lot):
        needs.append((more, less, 1, 1, 1, ("rule", less)))
    told = tuple([1 if kind in lot else 0 for kind in book[0]])
    return (lot, raised(book, raises_from(book, told, needs)))


def parted(book, low, high):
    """A house of the book with parting's numbers, its last room of just parting's lot."""
    found = parting(book, low, high)
    if found is None:
        raise NoParting()
    lot, numbers = found
    others = tuple([number - 1 if kind in lot else number for kind, number in zip(book[0], numbers)])
    if max(others) + 1 > ROOMS:
        raise TooGreat(ROOMS)
    rooms = nested_rooms(book, others) + (lot,)
    return (rooms, ways_among(book, rooms))
