"""Turned rules: what a ring of product 1 turns about, and the long rows made of it."""

from fankinds.bare import living
from fankinds.finders import finder
from fankinds.forms import is_tuple_of
from fankinds.rings import is_even
from fankinds.rows import rows_by, rule_links
from fankinds.steps import rule_step


def right_long(book, low, high, thing):
    """Whether anything is a long row from low to high."""
    if not isinstance(thing, tuple):
        return False
    here = low
    for link in thing:
        if not is_link(book, link) or link[1] != here:
            return False
        here = link[2]
    return here == high


def is_link(book, thing):
    """Whether anything is a rule's link or a turned one."""
    if is_tuple_of(thing, 3) and thing[0] == "rule":
        return thing[1:] in book[1]
    if is_tuple_of(thing, 4) and thing[0] == "turned":
        return turns(book, thing[2], thing[1], thing[3])
    return False


def turns(book, low, high, ring):
    """Whether (low, high) is a rule and the ring, of product 1, has its step; all may be anything."""
    return (low, high) in book[1] and is_even(book, ring) and rule_step(book, low, high) in ring


def long_row(book, low, high):
    """A long row of fewest links from low, which is living, to high; None where there is none."""
    return long_rows(book, low).get(high)


def lot_of(book, kind):
    """All kinds to which long rows lead from the kind, which is living, rising."""
    return tuple(sorted(long_rows(book, kind)))


def living_lots(book):
    """For each living kind the kinds to which long rows lead from it."""
    links = links_of(book)
    return {kind: list(rows_by(links, kind)) for kind in living(book)}


def long_rows(book, low):
    """For each kind to which long rows lead from low, which is living, one of fewest links."""
    return rows_by(links_of(book), low)


def links_of(book):
    """The rules' links and the turned ones between living kinds."""
    seeker = finder(book)
    # A ring of product 1 with one living kind has living kinds only, and within these none is below 1.
    lot = living(book)
    links = rule_links(book)
    for low, high in book[1]:
        ring = seeker.even(lot, rule_step(book, low, high))
        if ring is not None:
            links.append(("turned", high, low, ring))
    return links
