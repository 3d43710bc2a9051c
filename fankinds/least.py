"""The least numbers that stand, and the raises that show that they are the least."""

from fankinds.bare import living
from fankinds.errors import NoneStand
from fankinds.forms import is_number, is_tuple_of
from fankinds.numbers import by_kind
from fankinds.raising import TOLD_WHY, needed, needs_of, raises_from


def least(book, told):
    """The least numbers that stand and are at least the told ones; None where there are none."""
    if not can_stand(book, told):
        return None
    return raised(book, raises_from(book, told, needs_of(book)))


def can_stand(book, told):
    """Whether some numbers from the told ones on stand."""
    # Houses side by side are a house: where a kind has one room it can have any number and more.
    alive = living(book)
    return all([number == 0 or kind in alive for kind, number in zip(book[0], told)])


def right_raises(book, told, thing):
    """Whether anything is a tuple of raises, each right behind those ahead."""
    if not isinstance(thing, tuple):
        return False
    told_of = by_kind(book, told)
    needs = needs_of(book)
    many = {kind: 0 for kind in book[0]}
    for entry in thing:
        if not is_raise(told_of, needs, many, entry):
            return False
        many[entry[0]] = entry[1]
    return True


def is_raise(told_of, needs, many, thing):
    """Whether anything is a raise where the numbers of the kinds are these."""
    # Anything can be compared with the kinds, but not anything can be looked up in a dict.
    if not is_tuple_of(thing, 3) or thing[0] not in list(many) or not is_number(thing[1]):
        return False
    kind, number, why = thing
    return number > many[kind] and number == number_by(told_of, needs, many, kind, why)


def number_by(told_of, needs, many, kind, why):
    """The number that a raise of the kind by that why, which may be anything, would have; 0 where it is no why."""
    if why == TOLD_WHY:
        return told_of[kind]
    for need in needs:
        if need[0] == kind and need[5] == why:
            return needed(need, many)
    return 0


def raised(book, raises):
    """The numbers behind right raises."""
    many = {kind: 0 for kind in book[0]}
    for kind, number, why in raises:
        many[kind] = number
    return tuple([many[kind] for kind in book[0]])


def raises_to(book, told):
    """Right raises to the least numbers."""
    if not can_stand(book, told):
        raise NoneStand()
    return raises_from(book, told, needs_of(book))


def next_number(book, kind, n):
    """The least number from n on that the kind can have; None where there is none."""
    numbers = least(book, tuple([n if known == kind else 0 for known in book[0]]))
    return None if numbers is None else by_kind(book, numbers)[kind]
