"""Cores: the rules and doors of a book that an answer needs, and none else."""

from fankinds.answers import answer
from fankinds.books import is_book
from fankinds.errors import NoCore


def core(book, low, high):
    """A book of the same kinds with such rules and doors only that the answer's word needs each of them."""
    word = answer(book, low, high)[0]
    if word == "not":
        raise NoCore()
    # A book that asks less tells no more: what could not be left out once cannot be later, so once round is enough.
    found = book
    for less in books_less(book):
        smaller = common(found, less)
        if answer(smaller, low, high)[0] == word:
            found = smaller
    return found


def books_less(book):
    """The books with one rule or one door left out."""
    kinds, rules, doors = book
    fewer = [(kinds, rules[:at] + rules[at + 1:], doors) for at in range(len(rules))]
    return fewer + [(kinds, rules, doors[:at] + doors[at + 1:]) for at in range(len(doors))]


def common(one, other):
    """The book with the rules and doors that both have, of the same kinds."""
    rules = tuple([rule for rule in one[1] if rule in other[1]])
    return (one[0], rules, tuple([door for door in one[2] if door in other[2]]))


def right_core(book, low, high, thing):
    """Whether anything is a core of the book for low and high."""
    if not is_book(thing) or thing[0] != book[0] or common(thing, book) != thing:
        return False
    word = answer(book, low, high)[0]
    if word == "not" or answer(thing, low, high)[0] != word:
        return False
    return all([answer(less, low, high)[0] != word for less in books_less(thing)])
