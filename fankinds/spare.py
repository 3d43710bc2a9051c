"""Spare numbers: they stand, and by them nothing is just so but what must be."""

from fankinds.bare import living
from fankinds.finders import finder
from fankinds.least import raised
from fankinds.numbers import are_numbers, by_kind, stands
from fankinds.raising import needs_of, raises_from
from fankinds.steps import steps_of


def spare(book):
    """Spare numbers: the least ones that there are."""
    alive = living(book)
    needs = needs_of(book)
    # There are such numbers: each loose step is loose by some that stand, and by the sum of these all are.
    for one, other, n, d, why in loose_steps(book, alive):
        needs.append((other, one, d, 1, n, why))
    told = tuple([1 if kind in alive else 0 for kind in book[0]])
    return raised(book, raises_from(book, told, needs))


def loose_steps(book, alive):
    """The steps between the living kinds that are on no ring of product 1."""
    seeker = finder(book)
    steps = []
    for at, step in enumerate(steps_of(book)):
        if step[0] in alive and step[1] in alive and seeker.even(alive, at) is None:
            steps.append(step)
    return steps


def right_spare(book, thing):
    """Whether anything is spare numbers."""
    if not are_numbers(book, thing) or not stands(book, thing):
        return False
    alive = living(book)
    many = by_kind(book, thing)
    if not all([(many[kind] > 0) == (kind in alive) for kind in book[0]]):
        return False
    return all([many[one] * d < many[other] * n for one, other, n, d, why in loose_steps(book, alive)])
