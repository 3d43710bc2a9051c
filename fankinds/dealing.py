"""Rooms nested and ways dealt evenly between them."""


def dealt(ones, others, out, into):
    """The fewest pairs (one, other), rising, that give each as many as its fan tells, where there are such."""
    if len(ones) == 0 or len(others) == 0:
        return ()
    many = max(out[0] * len(ones), into[0] * len(others))
    each, more = divmod(many, len(ones))
    pairs = []
    for place, one in enumerate(ones):
        first = len(pairs)
        share = each + 1 if place < more else each
        # The others are gone through round and round: so their shares are even too, and none comes twice to one.
        pairs.extend([(one, others[at % len(others)]) for at in range(first, first + share)])
    return tuple(sorted(pairs))


def nested_rooms(book, numbers):
    """Rooms, as many as the greatest of the numbers, of which so many first ones are of each kind."""
    rooms = []
    for room in range(max(numbers)):
        rooms.append(tuple([kind for kind, number in zip(book[0], numbers) if room < number]))
    return tuple(rooms)


def ways_among(book, rooms):
    """The ways of a house of the book with these rooms, where their numbers let it be one; rising."""
    ways = []
    for name, start, goal, out, into in book[2]:
        pairs = dealt(rooms_of(rooms, start), rooms_of(rooms, goal), out, into)
        ways.extend([(name, one, other) for one, other in pairs])
    return tuple(ways)


def rooms_of(rooms, kind):
    """The numbers of the rooms that are of the kind."""
    return tuple([room for room, lot in enumerate(rooms) if kind in lot])
