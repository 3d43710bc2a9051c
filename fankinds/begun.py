"""Begun houses: what their rooms come to be, and what bars them from being finished."""

from fankinds.books import SIDES, door_called
from fankinds.exact import fans
from fankinds.houses import ways_at
from fankinds.turned import living_lots


def grown(book, house):
    """The begun house with its rooms of all kinds that they come to be of."""
    return house_with(book, house, living_lots(book))


def house_with(book, house, lots):
    """The begun house with its rooms of all kinds that they come to be of, by the lots of the living ones."""
    rooms = [kinds_brought(lots, kinds) for kinds in kinds_by_ways(book, house)]
    return (tuple(rooms), house[1])


def kinds_by_ways(book, house):
    """For each room its own kinds and those that the ways at it tell, some perhaps twice."""
    kinds = [list(lot) for lot in house[0]]
    for name, one, other in house[1]:
        door = door_called(book, name)
        kinds[one].append(door[1])
        kinds[other].append(door[2])
    return kinds


def kinds_brought(lots, kinds):
    """These kinds and those that they bring, rising: the living ones their lots, a bare one nothing more."""
    brought = list(kinds)
    for kind in kinds:
        brought.extend(lots.get(kind, []))
    return tuple(sorted(set(brought)))


def bar(book, house):
    """The first that bars the begun house from being finished; None where nothing does."""
    lots = living_lots(book)
    return bare_bar(lots, house_with(book, house, lots)) or fan_bar(book, house)


def bare_bar(lots, house):
    """The least room of a kind without a living lot, with its first such kind; or None."""
    for room, lot in enumerate(house[0]):
        for kind in lot:
            if kind not in lots:
                return ("bare", room, kind)
    return None


def fan_bar(book, house):
    """The first room with more ways than hold in every house that ends, door by door, out ahead of into; or None."""
    for name, out, into in fans(book):
        for side, fan in zip(SIDES, (out, into)):
            found = first_above(house, name, side, fan[1])
            if found is not None:
                return found
    return None


def first_above(house, name, side, most):
    """The least room with more than so many ways on that side of the door of that name; or None."""
    if most is None:
        return None
    for room, many in enumerate(ways_at(house, name, side)):
        if many > most:
            return (side, name, room, many, most)
    return None
