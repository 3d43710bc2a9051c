"""Raises: numbers go up, one kind at a time, until all that they need of one another is met.

A need (kind, of, times, plus, by, why) tells: where the number of `of` is above 0, that of the kind is at least
times the number of `of`, and plus, divided by `by`; why is that of a raise to it.
"""

from fankinds.books import SIDES, end_of, fan_at, other_side
from fankinds.numbers import by_kind

TOLD_WHY = ("told",)


def needs_of(book):
    """What numbers need to stand."""
    needs = [(high, low, 1, 0, 1, ("rule", low)) for low, high in book[1]]
    for door in book[2]:
        for side in SIDES:
            needs.extend(door_needs(door, side))
    return needs


def door_needs(door, side):
    """What the rooms on that side of a door need of those on the other."""
    far = other_side(side)
    fewest = fan_at(door, side)[0]
    most = fan_at(door, far)[1]
    needs = [(end_of(door, far), end_of(door, side), 0, fewest, 1, ("some", side, door[0]))]
    if most is not None:
        needs.append((end_of(door, far), end_of(door, side), fewest, 0, most, (side, door[0])))
    return needs


def needed(need, many):
    """The least number that the need wants its kind to have, as the numbers of the kinds are."""
    kind, source, times, plus, by, why = need
    if many[source] == 0:
        return 0
    return -(-(times * many[source] + plus) // by)


def raises_from(book, told, needs):
    """Raises to the least numbers from the told ones on that meet the needs; there must be such numbers."""
    raises = [(kind, number, TOLD_WHY) for kind, number in zip(book[0], told) if number > 0]
    many = by_kind(book, told)
    last = -1
    while last < len(raises):
        last = len(raises)
        for kind in book[0]:
            number, why = most_needed(needs, many, kind)
            if number > many[kind]:
                many[kind] = number
                raises.append((kind, number, why))
    return tuple(raises)


def most_needed(needs, many, kind):
    """The greatest number that a need wants the kind to have, with its why."""
    # A raise to less would only be followed by another one.
    best = (0, None)
    for need in needs:
        if need[0] == kind and needed(need, many) > best[0]:
            best = (needed(need, many), need[5])
    return best
