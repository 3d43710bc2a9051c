"""The forms of the small parts: numbers, names, fans, lots."""

from fankinds.bounds import FAN

LETTERS = "abcdefghijklmnopqrstuvwxyz"
LONGEST_NAME = 8


def is_number(thing):
    """Whether anything is a whole number, no truth."""
    return isinstance(thing, int) and not isinstance(thing, bool)


def is_tuple_of(thing, many):
    """Whether anything is a tuple of just so many things."""
    return isinstance(thing, tuple) and len(thing) == many


def is_rising(things):
    """Whether each of these, which can be compared, is above the one ahead."""
    return all([one < other for one, other in zip(things, things[1:])])


def is_name(thing):
    """Whether anything is a name."""
    if not isinstance(thing, str) or not 1 <= len(thing) <= LONGEST_NAME:
        return False
    return all([letter in LETTERS for letter in thing])


def is_fan(thing):
    """Whether anything is a fan (low, high)."""
    if not is_tuple_of(thing, 2):
        return False
    low, high = thing
    if not is_number(low) or not 0 <= low <= FAN:
        return False
    if high is None:
        return True
    return is_number(high) and max(1, low) <= high <= FAN


def is_lot(book, thing):
    """Whether anything is a rising tuple of one or more kinds of the book."""
    if not isinstance(thing, tuple) or len(thing) == 0:
        return False
    return all([kind in book[0] for kind in thing]) and is_rising(thing)
