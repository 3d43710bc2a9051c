"""Begun houses finished: how many rooms of each kind that takes, and a house with just so many."""

from fankinds.bare import living
from fankinds.begun import bar, grown
from fankinds.books import SIDES, end_of, fan_at, other_side
from fankinds.bounds import FAN, ROOMS
from fankinds.dealing import dealt_beside, nested_rooms, rooms_of
from fankinds.errors import Barred, TooGreat
from fankinds.exact import fans
from fankinds.houses import counts, ways_at
from fankinds.least import raised
from fankinds.numbers import by_kind
from fankinds.raising import needs_of, raises_from


def finish_numbers(book, house):
    """The least numbers of rooms with which the begun house can be finished as [21] tells."""
    return numbers_for(book, unbarred(book, house))


def unbarred(book, house):
    """The begun house grown, where nothing bars it."""
    found = bar(book, house)
    if found is not None:
        raise Barred(found)
    return grown(book, house)


def numbers_for(book, house):
    """finish_numbers of a house that is grown and unbarred."""
    alive = living(book)
    held = counts(book, house)
    told = [number + FAN * len(house[0]) if kind in alive else 0 for kind, number in zip(book[0], held)]
    needs = needs_of(book) + further_needs(book, house, alive)
    return raised(book, raises_from(book, tuple(told), needs))


def further_needs(book, house, alive):
    """What the numbers need of one another that the further rooms nest and take up all ways that are lacking."""
    held = by_kind(book, counts(book, house))
    needs = []
    for low, high in book[1]:
        if low in alive and high in alive:
            needs.append((high, low, 1, held[high] - held[low], 1, ("rule", low)))
    for door, held_fans in zip(book[2], fans(book)):
        if door[1] in alive and door[2] in alive:
            lacks = {side: len(lacking(house, door, held_fans, side)) for side in SIDES}
            needs.extend(further_door_needs(door, held, lacks))
    return needs


def further_door_needs(door, held, lacks):
    """What the further rooms on each side of the door need of those on the other."""
    needs = []
    for side in SIDES:
        far = other_side(side)
        near_kind, far_kind = end_of(door, side), end_of(door, far)
        fewest, most = fan_at(door, side)[0], fan_at(door, far)[1]
        if most is not None:
            # The rooms held already are none of the further ones, so their share of either number is taken off.
            plus = lacks[side] - lacks[far] - fewest * held[near_kind] + most * held[far_kind]
            needs.append((far_kind, near_kind, fewest, plus, most, (side, door[0])))
    return needs


def lacking(house, door, held_fans, side):
    """The rooms that lack ways on that side of the door, each as often as it lacks one, by fans of fans(book)."""
    fewest = held_fans[1 + SIDES.index(side)][0]
    many = ways_at(house, door[0], side)
    rooms = []
    for room, lot in enumerate(house[0]):
        if end_of(door, side) in lot:
            rooms.extend([room] * (fewest - many[room]))
    return rooms


def finished(book, house):
    """A house of the book that begins with the begun one, with the counts of finish_numbers."""
    full = unbarred(book, house)
    held = counts(book, full)
    further = tuple([number - had for number, had in zip(numbers_for(book, full), held)])
    if len(full[0]) + max(further) > ROOMS:
        raise TooGreat(ROOMS)
    rooms = nested_rooms(book, further)
    return (full[0] + rooms, tuple(sorted(full[1] + further_ways(book, full, rooms))))


def further_ways(book, house, rooms):
    """The ways that are wanted beside the house's own where these rooms follow on its own ones."""
    ways = []
    for door, held_fans in zip(book[2], fans(book)):
        few = lacking(house, door, held_fans, "out")
        less = lacking(house, door, held_fans, "into")
        ones = behind(len(house[0]), rooms_of(rooms, door[1]))
        others = behind(len(house[0]), rooms_of(rooms, door[2]))
        pairs = dealt_beside(few, less, ones, others, door[3], door[4])
        ways.extend([(door[0], one, other) for one, other in pairs])
    return tuple(ways)


def behind(many, rooms):
    """The rooms' numbers where so many rooms stand ahead of them."""
    return [many + room for room in rooms]
