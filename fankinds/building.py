"""Houses with just so many rooms of each kind."""

from fankinds.bounds import ROOMS
from fankinds.dealing import nested_rooms, ways_among
from fankinds.errors import TooGreat


def built(book, numbers):
    """A house of the book with just these numbers, which stand, of rooms of each kind."""
    # Numbers that stand may be far beyond the bound, so it is asked ahead of all making.
    if max(numbers) > ROOMS:
        raise TooGreat(ROOMS)
    rooms = nested_rooms(book, numbers)
    return (rooms, ways_among(book, rooms))
