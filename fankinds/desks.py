"""A desk: a hall asked and changed by lines of text."""

from fankinds.answers import answer
from fankinds.bare import living, others_than
from fankinds.bounds import TOLD
from fankinds.errors import FanError, NoKind, TooTold
from fankinds.houses import counts
from fankinds.least import least
from fankinds.words import fan_in, name_in, number_in

KEPT = 20
NO_LINE = "no line"
NONE = "-"
DONE = "done"
# What stands behind the first word of a line: n a name, d a number, f a fan. Of put it is one name or more.
SHAPES = {
    "new_kind": "n",
    "drop_kind": "n",
    "new_rule": "nn",
    "drop_rule": "nn",
    "new_door": "nnnff",
    "drop_door": "n",
    "set_fan": "nnf",
    "put": "n",
    "strike": "d",
    "tie": "ndd",
    "untie": "ndd",
    "back": "",
    "ask": "nn",
    "bare": "",
    "least": "nd",
    "rooms": "",
    "finish": "",
}


class Desk:
    """Answers lines for one hall, that very one."""

    def __init__(self, hall):
        self.hall = hall
        self.said = ()

    def say(self, line):
        """The answer to anything said as a line."""
        told = answered(self.hall, line)
        kept = line if isinstance(line, str) else None
        self.said = self.said[1 - KEPT:] + ((kept, told),)
        return told

    def log(self):
        """The last lines said, None for what is no text, each with its answer."""
        return self.said


def answered(hall, line):
    """The answer to anything, by that hall."""
    said = said_in(line)
    if said is None:
        return NO_LINE
    try:
        return answer_to(hall, said)
    except FanError as refusal:
        return "no " + str(refusal)


def said_in(line):
    """The line's first word and the things that the others tell; None where it is no line."""
    if not isinstance(line, str):
        return None
    word, *others = line.split(" ")
    if word not in SHAPES:
        return None
    shape = SHAPES[word]
    if word == "put":
        shape = shape * max(1, len(others))
    if len(shape) != len(others):
        return None
    things = [thing_in(sort, other) for sort, other in zip(shape, others)]
    return None if None in things else (word,) + tuple(things)


def thing_in(sort, word):
    """What a word tells as a thing of that sort; None where it tells none."""
    if sort == "n":
        return name_in(word)
    return number_in(word) if sort == "d" else fan_in(word)


def taken_back(hall):
    """Of back: the last deed undone."""
    hall.back()
    return DONE


def asked(hall, low, high):
    """Of ask: the word of the answer."""
    want_kind(hall, low)
    want_kind(hall, high)
    return answer(hall.book(), low, high)[0]


def bare_asked(hall):
    """Of bare: the bare kinds."""
    book = hall.book()
    return joined(others_than(book, living(book)))


def least_asked(hall, kind, n):
    """Of least: the least numbers with n of the kind told."""
    want_kind(hall, kind)
    if n > TOLD:
        raise TooTold()
    book = hall.book()
    numbers = least(book, tuple([n if known == kind else 0 for known in book[0]]))
    return joined(()) if numbers is None else joined(numbers)


def rooms_asked(hall):
    """Of rooms: their numbers."""
    return joined(hall.rooms())


def finish_asked(hall):
    """Of finish: the counts of the house finished."""
    return joined(counts(hall.book(), hall.finish()))


ANSWERS = {
    "back": taken_back,
    "ask": asked,
    "bare": bare_asked,
    "least": least_asked,
    "rooms": rooms_asked,
    "finish": finish_asked,
}


def answer_to(hall, said):
    """The answer to a line's first word and things."""
    word = said[0]
    things = said[1:]
    if word in ANSWERS:
        action = ANSWERS[word]
        return action(hall, *things)
    # All names behind put are one lot.
    told = hall.alone(("put", things) if word == "put" else said)
    return DONE if told is None else f"{DONE} {told}"


def want_kind(hall, name):
    """Refuses anything but a kind of the hall's book."""
    if name not in hall.book()[0]:
        raise NoKind(name)


def joined(things):
    """The things with blanks between."""
    return " ".join([str(thing) for thing in things]) if len(things) > 0 else NONE
