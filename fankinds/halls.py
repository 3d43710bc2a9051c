"""A hall: a book and a begun house, kept over many deeds, which can always be finished."""

from fankinds.begun import bar
from fankinds.books import is_book
from fankinds.bounds import DEEDS
from fankinds.deeds import are_deeds, behind_deed, house_of, lot_at
from fankinds.errors import BadBook, BadDeeds, Barred, Broken, Busy, FanError, Long, NothingBack
from fankinds.finish import finished

TRIES = 10


class Hall:
    """Keeps what stands (as deeds.py tells it), and for each deed that stands what stood ahead of it."""

    def __init__(self, book):
        if not is_book(book):
            raise BadBook()
        self.stand = (book, (), (), 0)
        self.past = ()
        self.trials = ()
        self.busy = False

    def new_kind(self, name):
        """A kind more."""
        return self.alone(("new_kind", name))

    def drop_kind(self, name):
        """A kind less."""
        return self.alone(("drop_kind", name))

    def new_rule(self, low, high):
        """A rule more."""
        return self.alone(("new_rule", low, high))

    def drop_rule(self, low, high):
        """A rule less."""
        return self.alone(("drop_rule", low, high))

    def new_door(self, name, start, goal, out, into):
        """A door more."""
        return self.alone(("new_door", name, start, goal, out, into))

    def drop_door(self, name):
        """A door less."""
        return self.alone(("drop_door", name))

    def set_fan(self, name, side, fan):
        """Another fan on one side of a door."""
        return self.alone(("set_fan", name, side, fan))

    def put(self, lot):
        """A room more; its number is told."""
        return self.alone(("put", lot))

    def strike(self, room):
        """A room less."""
        return self.alone(("strike", room))

    def tie(self, name, one, other):
        """A way more."""
        return self.alone(("tie", name, one, other))

    def untie(self, name, one, other):
        """A way less."""
        return self.alone(("untie", name, one, other))

    def back(self):
        """The last deed that stands undone."""
        self.want_idle()
        if len(self.past) == 0:
            raise NothingBack()
        deed, stand = self.past[-1]
        self.stand = stand
        self.past = self.past[:-1]

    def tried(self, deeds, *, tell=None):
        """All the deeds in order, or none; behind each tell is called with this hall."""
        self.want_idle()
        if not are_deeds(deeds):
            raise BadDeeds()
        stand, past = self.stand, self.past
        self.trials = self.tries() + (("begin", len(deeds)),)
        told = None
        many = 0
        try:
            told = self.in_order(deeds, tell)
            many = len(deeds)
        finally:
            if told is None:
                self.stand, self.past = stand, past
            self.trials = self.trials + (("end", many),)
        return told

    def in_order(self, deeds, tell):
        """What the deeds tell, done one behind another."""
        told = []
        for at, deed in enumerate(deeds):
            told.append(self.done_at(at, deed))
            if tell is not None:
                self.call(tell)
        return tuple(told)

    def done_at(self, at, deed):
        """What the deed with that number tells, done."""
        try:
            return self.done(deed)
        except FanError as refusal:
            raise Broken(at) from refusal

    def call(self, tell):
        """Calls tell with this hall, which is busy meanwhile."""
        self.busy = True
        try:
            tell(self)
        finally:
            self.busy = False

    def alone(self, deed):
        """What a deed tells, done by itself."""
        self.want_idle()
        return self.done(deed)

    def done(self, deed):
        """What the deed tells, done; where it is refused all is as ahead."""
        if len(self.past) >= DEEDS:
            raise Long()
        stand, told = behind_deed(self.stand, deed)
        found = bar(stand[0], house_of(stand))
        if found is not None:
            raise Barred(by_own_numbers(stand[1], found))
        self.past = self.past + ((deed, self.stand),)
        self.stand = stand
        return told

    def want_idle(self):
        """Refuses all while tell is called."""
        if self.busy:
            raise Busy()

    def tries(self):
        """The last rows of what was tried."""
        return self.trials[-TRIES:]

    def book(self):
        """The book that stands."""
        return self.stand[0]

    def house(self):
        """The begun house that stands, its rooms numbered anew from 0."""
        return house_of(self.stand)

    def rooms(self):
        """The rooms' own numbers."""
        return tuple([number for number, lot in self.stand[1]])

    def lot(self, room):
        """The room's lot as it was put."""
        return lot_at(self.stand, room)

    def deeds(self):
        """All deeds that stand, as tried takes them."""
        return tuple([deed for deed, stand in self.past])

    def finish(self):
        """A house of the book that begins with the begun one."""
        return finished(self.book(), self.house())

    def twin(self):
        """A hall that stands alike and goes its own way from here."""
        other = Hall(self.book())
        other.stand = self.stand
        other.past = self.past
        other.trials = self.trials
        return other

    def __len__(self):
        return len(self.past)

    def __eq__(self, other):
        return isinstance(other, Hall) and self.stand == other.stand

    def __str__(self):
        return str(sizes(self.stand))


def sizes(stand):
    """How many kinds, rules, doors, rooms and ways there are, as a text."""
    book, rooms, ways, coming = stand
    return " ".join([str(len(things)) for things in book + (rooms, ways)])


def by_own_numbers(rooms, found):
    """What bars the house, with its room by the number that is its own."""
    place = 1 if found[0] == "bare" else 2
    return found[:place] + (rooms[found[place]][0],) + found[place + 1:]
