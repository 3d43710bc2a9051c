"""Rings: rows of steps that come back to where they began."""

from fankinds.forms import is_number
from fankinds.ratios import ONE, times
from fankinds.steps import ones_of, steps_of


def is_ring(book, thing):
    """Whether anything is a ring of the book's steps."""
    if not isinstance(thing, tuple) or len(thing) == 0:
        return False
    steps = steps_of(book)
    if not all([is_number(at) and 0 <= at < len(steps) for at in thing]):
        return False
    ones = ones_of(steps, thing)
    others = [steps[at][1] for at in thing]
    return others == ones[1:] + ones[:1] and len(set(ones)) == len(ones)


def product(book, ring):
    """The fractions of the ring's steps multiplied: (n, d)."""
    steps = steps_of(book)
    ratio = ONE
    for at in ring:
        ratio = times(ratio, steps[at][2:4])
    return ratio


def is_even(book, thing):
    """Whether anything is a ring of product 1."""
    return is_ring(book, thing) and product(book, thing) == ONE


def rings_of(book):
    """All rings whose first step's one is the least of their ones, rising."""
    steps = steps_of(book)
    rings = []
    rows = [(at,) for at in range(len(steps))]
    while rows:
        rings.extend([row for row in rows if steps[row[-1]][1] == steps[row[0]][0]])
        rows = longer_rows(steps, rows)
    return tuple(sorted(rings))


def longer_rows(steps, rows):
    """The rows with one step more, whose ones are unlike and none below the first one."""
    longer = []
    for row in rows:
        ones = ones_of(steps, row)
        here = steps[row[-1]][1]
        if here > ones[0] and here not in ones:
            longer.extend([row + (at,) for at in range(len(steps)) if steps[at][0] == here])
    return longer
