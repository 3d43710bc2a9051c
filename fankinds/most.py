"""The greatest numbers that stand; None is as great as one likes."""

from fankinds.bare import living
from fankinds.books import SIDES, end_of, fan_at, other_side
from fankinds.numbers import by_kind
from fankinds.steps import steps_of


def most(book, told):
    """The greatest numbers that stand and are at most the told ones."""
    alive = living(book)
    # Rings of product below 1 would never bring down what is as great as one likes, so bare kinds begin at 0.
    many = {kind: number if kind in alive else 0 for kind, number in by_kind(book, told).items()}
    last = None
    while last != many:
        last = {kind: many[kind] for kind in many}
        lower_by_steps(book, many)
        lower_by_doors(book, many)
    return tuple([many[kind] for kind in book[0]])


def lower_by_steps(book, many):
    """Brings each step's one down to as many as its other lets."""
    for one, other, n, d, why in steps_of(book):
        if many[other] is not None:
            lower(many, one, many[other] * n // d)


def lower_by_doors(book, many):
    """Brings down to 0 what wants more rooms at a door's other end than there are."""
    for door in book[2]:
        for side in SIDES:
            found = many[end_of(door, other_side(side))]
            if found is not None and found < fan_at(door, side)[0]:
                lower(many, end_of(door, side), 0)


def lower(many, kind, number):
    """Brings the kind's number down to at most that."""
    if many[kind] is None or many[kind] > number:
        many[kind] = number
