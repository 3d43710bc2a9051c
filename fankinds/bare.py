"""Bare kinds: those of which no house that ends has a room, and the papers that show it."""

from fankinds.books import SIDES, door_called, end_of, fan_at, other_side
from fankinds.finders import finder
from fankinds.forms import is_tuple_of
from fankinds.ratios import ONE, is_less
from fankinds.rings import is_ring, product
from fankinds.steps import ones_of, steps_of


def right_bare(book, thing):
    """Whether anything is a right bare paper."""
    return isinstance(thing, tuple) and bare_behind(book, thing) is not None


def bare_by(book, paper):
    """The kinds that a right paper makes bare, rising."""
    return tuple(sorted(bare_behind(book, paper)))


def bare_behind(book, entries):
    """The kinds that the entries make bare, each once; None where one of them isn't right."""
    bare = []
    for entry in entries:
        made = made_bare(book, bare, entry)
        if len(made) == 0:
            return None
        bare = bare + [kind for kind in made if kind not in bare]
    return bare


def made_bare(book, bare, entry):
    """The kinds that anything makes bare as an entry behind those that made these; none where it isn't right."""
    if is_tuple_of(entry, 2) and entry[0] == "ring" and is_shrinking(book, entry[1]):
        return ones_of(steps_of(book), entry[1])
    if is_tuple_of(entry, 3) and entry[0] == "follow" and follows(book, bare, entry[1], entry[2]):
        return [entry[1]]
    return []


def is_shrinking(book, thing):
    """Whether anything is a ring of product below 1."""
    return is_ring(book, thing) and is_less(product(book, thing), ONE)


def follows(book, bare, kind, why):
    """Whether a kind is bare as these are, by that why; both may be anything."""
    if is_tuple_of(why, 3) and why[0] == "rule":
        return why[1:] in book[1] and kind == why[1] and why[2] in bare
    if is_tuple_of(why, 2) and why[0] in SIDES:
        door = door_called(book, why[1])
        return door is not None and follows_by(door, why[0], bare, kind)
    return False


def follows_by(door, side, bare, kind):
    """Whether a kind is bare because each room of it wants a way, on that side of the door, at a room of these."""
    if kind != end_of(door, side) or fan_at(door, side)[0] == 0:
        return False
    return end_of(door, other_side(side)) in bare


def bare_paper(book):
    """A right paper that makes all bare kinds bare."""
    seeker = finder(book)
    paper = []
    bare = []
    entry = next_entry(book, seeker, bare)
    while entry is not None:
        bare = bare + made_bare(book, bare, entry)
        paper.append(entry)
        entry = next_entry(book, seeker, bare)
    return tuple(paper)


def next_entry(book, seeker, bare):
    """A right entry behind those that made these bare, which makes only others bare; None where there is none."""
    for kind, why in reasons(book):
        if kind not in bare and follows(book, bare, kind, why):
            return ("follow", kind, why)
    # What is on a ring with a bare kind follows from it, so the rings of the others are enough.
    ring = seeker.below(others_than(book, bare))
    return None if ring is None else ("ring", ring)


def reasons(book):
    """All (kind, why) by which a kind may follow."""
    told = [(low, ("rule", low, high)) for low, high in book[1]]
    for door in book[2]:
        told.extend([(end_of(door, side), (side, door[0])) for side in SIDES])
    return told


def others_than(book, bare):
    """The book's kinds that aren't among these, in order."""
    return tuple([kind for kind in book[0] if kind not in bare])


def living(book):
    """The kinds that aren't bare, in order."""
    return others_than(book, bare_by(book, bare_paper(book)))
