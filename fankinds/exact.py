"""The fans that doors have in every house that ends, and the papers that show them."""

from fankinds.bare import bare_by, bare_paper, living, right_bare
from fankinds.books import door_called, fan_at, other_side
from fankinds.finders import finder
from fankinds.forms import is_tuple_of
from fankinds.rings import is_even
from fankinds.steps import steps_by, steps_of

NO_WAYS = (0, 0)


def fans(book):
    """For each door (name, out, into), with the fans that hold in every house that ends."""
    seeker = finder(book)
    alive = living(book)
    return tuple([(door[0],) + held_fans(book, seeker, alive, door) for door in book[2]])


def held_fans(book, seeker, alive, door):
    """The door's (out, into) that hold in every house that ends, of which these kinds are living."""
    name, start, goal, out, into = door
    if start not in alive or goal not in alive:
        return (out if goal in alive else NO_WAYS, into if start in alive else NO_WAYS)
    ring = even_ring(book, seeker, alive, name)
    return (out, into) if ring is None else exact_fans(door, steps_of(book)[ring[0]][4][0])


def even_ring(book, seeker, alive, name):
    """A ring of product 1, of living kinds, that begins with one of the door's steps; None where there is none."""
    for step in steps_by(book, name):
        ring = seeker.even(alive, step)
        if ring is not None:
            return ring
    return None


def exact_fans(door, side):
    """The door's (out, into) where its step of that side is just so: there each has the low, on the other the high."""
    low = fan_at(door, side)[0]
    high = fan_at(door, other_side(side))[1]
    near, far = (low, low), (high, high)
    return (near, far) if side == "out" else (far, near)


def fan_paper(book, name):
    """A paper that shows the door's fans, where they aren't as told: bare ends, or a ring of product 1; else None."""
    door = door_called(book, name)
    paper = bare_paper(book)
    if has_bare_end(door, bare_by(book, paper)):
        return ("bare", paper)
    ring = even_ring(book, finder(book), living(book), name)
    return None if ring is None else ("ring", ring)


def has_bare_end(door, bare):
    """Whether the door's start or goal is among these."""
    return door[1] in bare or door[2] in bare


def right_fan_paper(book, name, thing):
    """Whether anything is a paper that shows the fans of the door of that name."""
    if not is_tuple_of(thing, 2):
        return False
    word, paper = thing
    if word == "bare":
        return right_bare(book, paper) and has_bare_end(door_called(book, name), bare_by(book, paper))
    return word == "ring" and is_even(book, paper) and paper[0] in steps_by(book, name)
