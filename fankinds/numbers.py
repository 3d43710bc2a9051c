"""Numbers of rooms, one for each kind, and whether a house that ends has them."""

from fankinds.books import SIDES, end_of, fan_at, other_side
from fankinds.forms import is_number, is_tuple_of
from fankinds.steps import steps_of


def are_numbers(book, thing):
    """Whether anything is a tuple with a number from 0 on for each kind."""
    return is_tuple_of(thing, len(book[0])) and all([is_number(number) and number >= 0 for number in thing])


def by_kind(book, numbers):
    """The number of each kind, by its name."""
    return {kind: number for kind, number in zip(book[0], numbers)}


def stands(book, numbers):
    """Whether the numbers, one for each kind in order, stand."""
    many = by_kind(book, numbers)
    if not all([many[one] * d <= many[other] * n for one, other, n, d, why in steps_of(book)]):
        return False
    return all([has_enough(door, side, many) for door in book[2] for side in SIDES])


def has_enough(door, side, many):
    """Whether a room on that side of the door, if there is one, finds as many rooms as it wants on the other."""
    return many[end_of(door, side)] == 0 or many[end_of(door, other_side(side))] >= fan_at(door, side)[0]
