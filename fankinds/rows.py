"""Rows of rules: what holds in every house."""

from fankinds.forms import is_lot


def is_row(book, low, high, thing):
    """Whether anything is a row from low to high."""
    if not isinstance(thing, tuple) or len(thing) == 0:
        return False
    if thing[0] != low or thing[-1] != high or low not in book[0]:
        return False
    return all([pair in book[1] for pair in zip(thing, thing[1:])])


def above(book, kind):
    """The kinds to which rows lead from the kind, rising."""
    return tuple(sorted(rows_by(rule_links(book), kind)))


def row_to(book, low, high):
    """A row from low to high of fewest kinds, of these the first; None where there is none."""
    links = rows_by(rule_links(book), low).get(high)
    if links is None:
        return None
    return (low,) + tuple([link[2] for link in links])


def rule_links(book):
    """The rules as links (word, one, other)."""
    return [("rule", low, high) for low, high in book[1]]


def rows_by(links, low):
    """For each kind to which links lead from low, a tuple of fewest of them, of these the first in the links' order."""
    rows = {low: ()}
    last = [low]
    while last:
        fresh = []
        for link in [known for here in last for known in links if known[1] == here]:
            if link[2] not in rows:
                rows[link[2]] = rows[link[1]] + (link,)
                fresh.append(link[2])
        last = fresh
    return rows


def is_full_lot(book, thing):
    """Whether anything is a lot of the book that has with each rule's low its high."""
    return is_lot(book, thing) and all([high in thing for low, high in book[1] if low in thing])
