"""Books and houses as texts, and texts read as these."""

from fankinds.books import are_doors, are_kinds, are_rules
from fankinds.bounds import ROOMS
from fankinds.errors import NoText
from fankinds.forms import is_lot
from fankinds.houses import is_way
from fankinds.words import fan_in, fan_word, number_in


def book_text(book):
    """The text of a book."""
    kinds, rules, doors = book
    rows = [("kinds",) + kinds] + [("rule",) + rule for rule in rules]
    for name, start, goal, out, into in doors:
        rows.append(("door", name, start, goal, fan_word(out), fan_word(into)))
    return text_of(rows)


def house_text(house):
    """The text of a house."""
    rows = [("room",) + lot for lot in house[0]]
    rows.extend([("way", name, str(one), str(other)) for name, one, other in house[1]])
    return text_of(rows)


def text_of(rows):
    """The rows of words as lines, each with its end."""
    return "".join([" ".join(row) + "\n" for row in rows])


def read_book(text):
    """The book whose text it is."""
    lines = lines_of(text)
    book = None
    for at, line in enumerate(lines[:-1]):
        # Up to each line's end the text of a book is that of one itself, so the first one that spoils it is told.
        book = book_with(book, line.split(" "))
        if book is None:
            raise NoText(at)
    if lines[-1] != "" or book is None:
        raise NoText(len(lines) - 1)
    return book


def lines_of(text):
    """The text's lines without their ends, and what stands behind the last end."""
    if not isinstance(text, str):
        raise NoText(None)
    return text.split("\n")


def book_with(book, words):
    """The book that a line of these words makes of that one, None ahead of the first; None where it makes none."""
    if book is None:
        kinds = tuple(words[1:])
        return (kinds, (), ()) if words[0] == "kinds" and are_kinds(kinds) else None
    kinds, rules, doors = book
    if words[0] == "rule" and len(doors) == 0:
        rules = rules + (tuple(words[1:]),)
        return (kinds, rules, doors) if are_rules(kinds, rules) else None
    if words[0] == "door" and len(words) == 6:
        doors = doors + (tuple(words[1:4]) + (fan_in(words[4]), fan_in(words[5])),)
        return (kinds, rules, doors) if are_doors(kinds, doors) else None
    return None


def read_house(book, text):
    """The house, by the book's kinds and doors, whose text it is."""
    lines = lines_of(text)
    rooms = []
    ways = []
    for at, line in enumerate(lines[:-1]):
        words = line.split(" ")
        lot, way = tuple(words[1:]), way_in(words)
        # Rooms stand ahead of ways, so that their numbers are known by then.
        if words[0] == "room" and len(ways) == 0 and len(rooms) < ROOMS and is_lot(book, lot):
            rooms.append(lot)
        elif is_next_way(book, len(rooms), ways, way):
            ways.append(way)
        else:
            raise NoText(at)
    if lines[-1] != "":
        raise NoText(len(lines) - 1)
    return (tuple(rooms), tuple(ways))


def way_in(words):
    """The way that a line of these words tells, perhaps none of any house; None where it tells none."""
    if len(words) != 4 or words[0] != "way":
        return None
    return (words[1], number_in(words[2]), number_in(words[3]))


def is_next_way(book, many, ways, way):
    """Whether this, perhaps None, is a way between so many rooms that can follow on these ways."""
    return is_way([door[0] for door in book[2]], many, way) and (len(ways) == 0 or ways[-1] < way)
