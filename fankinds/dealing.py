"""Rooms nested and ways dealt evenly between them."""


def dealt(ones, others, out, into):
    """The fewest pairs (one, other), rising, that give each as many as its fan tells, where there are such."""
    return tuple(sorted(dealt_beside((), (), ones, others, out, into)))


def dealt_beside(few, less, ones, others, out, into):
    """Fewest pairs that give each of the ones and others as many as its fan tells, and each of few and less one.

    Few are tied to others, less to ones: neither are more than these, and a room stands there as often as it lacks.
    """
    if len(ones) == 0 or len(others) == 0:
        return []
    pairs = list(zip(few, others)) + list(zip(ones, less))
    many = max(out[0] * len(ones) + len(few), into[0] * len(others) + len(less))
    each, more = divmod(many - len(few), len(ones))
    first = len(few)
    for place, one in enumerate(ones):
        last = first + each + (1 if place < more else 0) - (1 if place < len(less) else 0)
        # The others are gone through round and round: so their shares are even too, and none comes twice to one.
        pairs.extend([(one, others[at % len(others)]) for at in range(first, last)])
        first = last
    return pairs


def nested_rooms(book, numbers):
    """Rooms, as many as the greatest of the numbers, of which so many first ones are of each kind."""
    rooms = []
    for room in range(max(numbers)):
        rooms.append(tuple([kind for kind, number in zip(book[0], numbers) if room < number]))
    return tuple(rooms)


def ways_among(book, rooms):
    """The ways of a house of the book with these rooms, where their numbers let it be one; rising."""
    ways = []
    for name, start, goal, out, into in book[2]:
        pairs = dealt(rooms_of(rooms, start), rooms_of(rooms, goal), out, into)
        ways.extend([(name, one, other) for one, other in pairs])
    return tuple(ways)


def rooms_of(rooms, kind):
    """The numbers of the rooms that are of the kind."""
    return tuple([room for room, lot in enumerate(rooms) if kind in lot])
