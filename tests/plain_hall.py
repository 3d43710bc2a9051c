"""A hall told once more: each deed with its refusals in the document's order, all states kept whole."""

import copy

from tests.plain import PlainBook
from tests.samples import LETTERS

TAKES = {"new_kind": 1, "drop_kind": 1, "new_rule": 2, "drop_rule": 2, "new_door": 5, "drop_door": 1, "set_fan": 3, "put": 1,
         "strike": 1, "tie": 3, "untie": 3}


class Refused(Exception):
    """A refusal: the class's name and its field, if it has one."""

    def __init__(self, *told):
        super().__init__(*told)
        self.told = told


def is_int(thing):
    return thing.__class__ is int


def is_name(thing):
    return thing.__class__ is str and 1 <= len(thing) <= 8 and all("a" <= sign <= "z" for sign in thing)


def is_fan(thing):
    if thing.__class__ is not tuple or len(thing) != 2:
        return False
    low, high = thing
    if not is_int(low) or not 0 <= low <= 4:
        return False
    return high is None or is_int(high) and 1 <= high <= 4 and low <= high


class PlainHall:
    def __init__(self, book):
        self.kinds = list(book[0])
        self.rules = list(book[1])
        self.doors = {door[0]: list(door[1:]) for door in book[2]}
        self.lots = {}
        self.ways = []
        self.coming = 0
        self.stood = []

    def state(self):
        return copy.deepcopy((self.kinds, self.rules, self.doors, self.lots, self.ways, self.coming))

    def restore(self, state):
        self.kinds, self.rules, self.doors, self.lots, self.ways, self.coming = copy.deepcopy(state)

    def book(self):
        doors = tuple((name,) + tuple(self.doors[name]) for name in sorted(self.doors))
        return (tuple(sorted(self.kinds)), tuple(sorted(self.rules)), doors)

    def house(self):
        numbers = sorted(self.lots)
        ways = sorted((name, numbers.index(one), numbers.index(other)) for name, one, other in self.ways)
        return (tuple(self.lots[number] for number in numbers), tuple(ways))

    def do(self, deed):
        """What the deed tells; Refused where it is, with all as ahead."""
        if len(self.stood) >= 100:
            raise Refused("Long")
        ahead = self.state()
        try:
            told = getattr(self, deed[0])(*deed[1:])
            self.check_bar()
        except Refused:
            self.restore(ahead)
            raise
        self.stood.append((deed, ahead))
        return told

    def back(self):
        if not self.stood:
            raise Refused("NothingBack")
        self.restore(self.stood.pop()[1])

    def check_bar(self):
        found = PlainBook(self.book()).bar(self.house())
        if found is not None:
            place = 1 if found[0] == "bare" else 2
            own = sorted(self.lots)[found[place]]
            raise Refused("Barred", found[:place] + (own,) + found[place + 1:])

    def want_kind(self, name):
        if name not in self.kinds:
            raise Refused("NoKind", name)

    def want_door(self, name):
        if name not in list(self.doors):
            raise Refused("NoDoor", name)

    def want_room(self, room):
        if not is_int(room) or room not in self.lots:
            raise Refused("NoRoom", room)

    def new_kind(self, name):
        if not is_name(name):
            raise Refused("BadName")
        if name in self.kinds:
            raise Refused("Taken", name)
        if len(self.kinds) == 6:
            raise Refused("Full", 6)
        self.kinds.append(name)

    def drop_kind(self, name):
        self.want_kind(name)
        used = [kind for rule in self.rules for kind in rule] + [kind for door in self.doors.values() for kind in door[:2]]
        used += [kind for lot in self.lots.values() for kind in lot]
        if name in used or len(self.kinds) == 1:
            raise Refused("InUse")
        self.kinds.remove(name)

    def new_rule(self, low, high):
        self.want_kind(low)
        self.want_kind(high)
        if low == high:
            raise Refused("Same")
        if (low, high) in self.rules:
            raise Refused("Taken", (low, high))
        if len(self.rules) == 10:
            raise Refused("Full", 10)
        self.rules.append((low, high))

    def drop_rule(self, low, high):
        if (low, high) not in self.rules:
            raise Refused("NoRule")
        self.rules.remove((low, high))

    def new_door(self, name, start, goal, out, into):
        if not is_name(name):
            raise Refused("BadName")
        if name in self.doors:
            raise Refused("Taken", name)
        self.want_kind(start)
        self.want_kind(goal)
        for side, fan in (("out", out), ("into", into)):
            if not is_fan(fan):
                raise Refused("BadFan", side)
        if len(self.doors) == 6:
            raise Refused("Full", 6)
        self.doors[name] = [start, goal, out, into]

    def drop_door(self, name):
        self.want_door(name)
        if any(way[0] == name for way in self.ways):
            raise Refused("InUse")
        del self.doors[name]

    def set_fan(self, name, side, fan):
        self.want_door(name)
        if side not in ("out", "into"):
            raise Refused("BadSide")
        if not is_fan(fan):
            raise Refused("BadFan", side)
        self.doors[name][2 if side == "out" else 3] = fan

    def put(self, lot):
        if lot.__class__ is not tuple or not lot or any(kind not in self.kinds for kind in lot) or list(lot) != sorted(set(lot)):
            raise Refused("BadLot")
        self.lots[self.coming] = lot
        self.coming += 1
        return self.coming - 1

    def strike(self, room):
        self.want_room(room)
        if any(room in way[1:] for way in self.ways):
            raise Refused("InUse")
        del self.lots[room]

    def tie(self, name, one, other):
        self.want_door(name)
        self.want_room(one)
        self.want_room(other)
        if (name, one, other) in self.ways:
            raise Refused("Taken", (name, one, other))
        self.ways.append((name, one, other))

    def untie(self, name, one, other):
        if not is_int(one) or not is_int(other) or (name, one, other) not in self.ways:
            raise Refused("NoWay")
        self.ways.remove((name, one, other))


def random_deed(rand, plain, odd=()):
    """A deed that is mostly near to what can be done; some things of it odd ones."""
    word = rand.choice(["new_kind", "drop_kind", "new_rule", "new_rule", "drop_rule", "new_door", "new_door", "drop_door",
                        "set_fan", "set_fan"] + ["put"] * 5 + ["strike"] * 2 + ["tie"] * 8 + ["untie"] * 2)
    deed = (word,) + tuple(things_for(rand, plain, word))
    if odd and rand.random() < 0.1:
        at = rand.randint(1, len(deed) - 1)
        deed = deed[:at] + (rand.choice(odd),) + deed[at + 1:]
    return deed


def things_for(rand, plain, word):
    kind = lambda: rand.choice(plain.kinds + ["q"] if rand.random() < 0.1 else plain.kinds)
    door = lambda: rand.choice(sorted(plain.doors) or ["s"])
    room = lambda: rand.choice(sorted(plain.lots) + [plain.coming] if rand.random() < 0.2 else sorted(plain.lots) or [0])
    fan = lambda: rand.choice(((0, None), (0, None), (1, None), (0, 1), (1, 1), (1, 2), (2, 2), (0, 3), (2, 4), (4, 4)))
    if word in ("new_kind", "drop_kind"):
        return [rand.choice(LETTERS)]
    if word == "new_rule":
        return [kind(), kind()]
    if word == "drop_rule":
        return list(rand.choice(plain.rules or [("a", "b")]))
    if word == "new_door":
        return [rand.choice("stuvwxyz"), kind(), kind(), fan(), fan()]
    if word == "drop_door":
        return [door()]
    if word == "set_fan":
        return [door(), rand.choice(("out", "into")), fan()]
    if word == "put":
        return [tuple(sorted(rand.sample(plain.kinds, min(len(plain.kinds), rand.choice((1, 1, 1, 2, 3))))))]
    if word == "strike":
        return [room()]
    if word == "untie":
        return list(rand.choice(plain.ways or [("s", 0, 0)]))
    return [door(), room(), room()]
