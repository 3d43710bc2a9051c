"""What the document tells of a book, reckoned once more from all its rings."""

from tests.samples import plain_rings, plain_steps, raised_to_stand


class PlainBook:
    """Bare kinds, lots, fans and words of a book, each by going through all rings."""

    def __init__(self, book):
        self.book = book
        self.steps = plain_steps(book)
        rings = plain_rings(book)
        self.below = [ring for ring, worth in rings.items() if worth < 1]
        self.even = {at for ring, worth in rings.items() if worth == 1 for at in ring}
        self.bare = self.bare_kinds()
        self.living = [kind for kind in book[0] if kind not in self.bare]
        self.lots = {kind: self.lot(kind) for kind in self.living}
        self.fans = [self.held(door) for door in book[2]]

    def bare_kinds(self):
        bare = {self.steps[at][0] for ring in self.below for at in ring}
        before = None
        while before != bare:
            before = set(bare)
            bare |= {low for low, high in self.book[1] if high in bare}
            bare |= {door[1] for door in self.book[2] if door[3][0] > 0 and door[2] in bare}
            bare |= {door[2] for door in self.book[2] if door[4][0] > 0 and door[1] in bare}
        return bare

    def lot(self, kind):
        """All kinds to which rules and turned rules lead."""
        pairs = set(self.book[1]) | {(high, low) for at, (low, high) in enumerate(self.book[1]) if at in self.even}
        lot = {kind}
        for _ in self.book[0]:
            lot |= {high for low, high in pairs if low in lot}
        return lot

    def row(self, low, high):
        """Whether a row of rules leads from low to high."""
        lot = {low}
        for _ in self.book[0]:
            lot |= {two for one, two in self.book[1] if one in lot}
        return high in lot

    def word(self, low, high):
        if self.row(low, high):
            return "ever"
        return "ended" if low in self.bare or high in self.lots[low] else "not"

    def held(self, door):
        """(name, out, into) as they hold in every house that ends."""
        name, start, goal, out, into = door
        if start in self.bare or goal in self.bare:
            return (name, (0, 0) if goal in self.bare else out, (0, 0) if start in self.bare else into)
        why = {self.steps[at][3] for at in self.even}
        if ("out", name) in why:
            return (name, (out[0], out[0]), (into[1], into[1]))
        if ("into", name) in why:
            return (name, (out[1], out[1]), (into[0], into[0]))
        return (name, out, into)

    def grown(self, house):
        """The house with all kinds that its rooms come to be of, going on until none comes any more."""
        rooms = [set(lot) for lot in house[0]]
        doors = {door[0]: door for door in self.book[2]}
        before = None
        while before != rooms:
            before = [set(lot) for lot in rooms]
            for name, one, other in house[1]:
                rooms[one].add(doors[name][1])
                rooms[other].add(doors[name][2])
            for lot in rooms:
                for kind in sorted(lot):
                    lot |= self.lots.get(kind, set())
        return (tuple(tuple(sorted(lot)) for lot in rooms), house[1])

    def bars(self, house):
        """All that bars the house, in the order of the document."""
        rooms = self.grown(house)[0]
        bars = [("bare", room, kind) for room, lot in enumerate(rooms) for kind in lot if kind in self.bare]
        for name, out, into in self.fans:
            for side, place, (low, high) in (("out", 1, out), ("into", 2, into)):
                for room in range(len(rooms)):
                    many = sum(1 for way in house[1] if way[0] == name and way[place] == room)
                    if high is not None and many > high:
                        bars.append((side, name, room, many, high))
        return bars

    def bar(self, house):
        return (self.bars(house) + [None])[0]

    def lacks(self, house, name, place, kind, low):
        """How many ways by the door the rooms of the kind lack, each by itself, to have so many as the low."""
        rooms = self.grown(house)[0]
        many = [sum(1 for way in house[1] if way[0] == name and way[place] == room) for room in range(len(rooms))]
        return sum(max(0, low - many[room]) for room, lot in enumerate(rooms) if kind in lot)

    def wanted_to_finish(self, house):
        """Sentence by sentence of [21]: a function that tells, as the numbers are, each (kind, least) that they want."""
        rooms = self.grown(house)[0]
        had = {kind: sum(1 for lot in rooms if kind in lot) for kind in self.book[0]}
        lacks = {}
        for name, start, goal, out, into in self.book[2]:
            held = [fans for fans in self.fans if fans[0] == name][0]
            lacks[name] = (self.lacks(house, name, 1, start, held[1][0]), self.lacks(house, name, 2, goal, held[2][0]))

        def wants(numbers):
            for kind in self.living:
                yield kind, had[kind] + 4 * len(rooms)
            for low, high in self.book[1]:
                if low in self.living and high in self.living:
                    yield high, numbers[low] - had[low] + had[high]
            for name, start, goal, out, into in self.book[2]:
                if start in self.living and goal in self.living:
                    more, fresh = numbers[start] - had[start], numbers[goal] - had[goal]
                    lacks_out, lacks_into = lacks[name]
                    if into[1] is not None and out[0] * more + lacks_out > into[1] * fresh + lacks_into:
                        yield goal, numbers[goal] + 1
                    if out[1] is not None and into[0] * fresh + lacks_into > out[1] * more + lacks_out:
                        yield start, numbers[start] + 1

        return wants

    def finish_numbers(self, house, most=10 ** 5):
        """The least numbers of [21], by going round over its sentences; None above most."""
        wants = self.wanted_to_finish(house)
        numbers = {kind: 0 for kind in self.book[0]}
        changed = True
        while changed:
            before = dict(numbers)
            numbers = raised_to_stand(self.book, numbers, most=most)
            if numbers is None:
                return None
            for kind, least in wants(dict(numbers)):
                numbers[kind] = max(numbers[kind], least)
            changed = numbers != before
        return tuple(numbers[kind] for kind in self.book[0])
