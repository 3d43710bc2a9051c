"""[2]: what is told of every house that ends holds in houses made without the program, by other names, and by books that ask more."""

import itertools
import random
import unittest
from collections import Counter

from fankinds.answers import answer, right_answer
from fankinds.bare import living
from fankinds.begun import bar, grown
from fankinds.building import built
from fankinds.cores import core
from fankinds.errors import FanError, TooGreat
from fankinds.exact import fans
from fankinds.finish import finish_numbers, finished
from fankinds.halls import Hall
from fankinds.houses import counts, is_house, wrong_in
from fankinds.least import least
from fankinds.most import most
from fankinds.numbers import stands
from fankinds.spare import spare
from fankinds.turned import lot_of
from tests.plain_hall import PlainHall, Refused, random_deed
from tests.samples import LETTERS, mixed_books, random_books, random_fan, turning_books
from tests.test_houses import plain_wrong


def made_house(rand):
    """A house drawn first, and a book read off it: rules that hold in it, doors whose fans let its ways."""
    kinds = tuple(LETTERS[:rand.randint(1, 5)])
    shapes = [tuple(sorted(rand.sample(kinds, rand.randint(1, len(kinds))))) for _ in range(rand.randint(1, 4))]
    rooms = tuple(rand.choice(shapes) for _ in range(rand.randint(1, 7)))
    rules = [(low, high) for low, high in itertools.permutations(kinds, 2) if all(high in lot for lot in rooms if low in lot)]
    rules = tuple(sorted(rand.sample(rules, min(len(rules), rand.choice((0, 1, 2, 3, 10))))))
    doors, ways = [], []
    for name in "stuvwx"[:rand.randint(0, 6)]:
        door, its_ways = made_door(rand, kinds, rooms, name)
        doors.append(door)
        ways.extend(its_ways)
    return (kinds, rules, tuple(doors)), (rooms, tuple(sorted(ways)))


def made_door(rand, kinds, rooms, name):
    """A door between two kinds, with ways that are as even as a shift makes them or drawn by chance."""
    start, goal = rand.choice(kinds), rand.choice(kinds)
    ones = [room for room, lot in enumerate(rooms) if start in lot]
    others = [room for room, lot in enumerate(rooms) if goal in lot]
    if rand.random() < 0.6:
        each = rand.randint(0, min(2, len(others)))
        pairs = {(one, others[(at + more) % len(others)]) for at, one in enumerate(ones) for more in range(each)} if others else set()
    else:
        pairs = {(one, other) for one in ones for other in others if rand.random() < 0.4}
    out = read_fan(rand, [sum(1 for pair in pairs if pair[0] == one) for one in ones])
    into = read_fan(rand, [sum(1 for pair in pairs if pair[1] == other) for other in others])
    return (name, start, goal, out, into), [(name, one, other) for one, other in pairs]


def read_fan(rand, many):
    """A fan that lets all these, often as narrow as can be."""
    if not many:
        return random_fan(rand, 4)
    low, high = min(min(many), 4), max(1, max(many))
    if rand.random() < 0.3:
        low = rand.randint(0, low)
    if high > 4 or rand.random() < 0.3:
        high = None
    return (low, high)


class HousesMadeWithoutTheProgram(unittest.TestCase):
    def houses(self, seed, many):
        rand = random.Random(seed)
        for _ in range(many):
            book, house = made_house(rand)
            self.assertIsNone(plain_wrong(book, house))
            yield rand, book, house

    def test_what_lies_within(self):
        seen = Counter()
        for rand, book, house in self.houses(481, 1200):
            for low, high in itertools.permutations(book[0], 2):
                word = answer(book, low, high)[0]
                held = all(high in lot for lot in house[0] if low in lot)
                self.assertTrue(held or word == "not", (book, house, low, high))
                seen[word, any(low in lot for lot in house[0])] += 1
        self.assertGreater(min(seen[word, True] for word in ("ever", "ended", "not")), 50, seen)

    def test_kinds_lots_and_fans(self):
        exact = 0
        for rand, book, house in self.houses(482, 700):
            alive = living(book)
            for lot in house[0]:
                self.assertTrue(all(kind in alive for kind in lot))
                self.assertTrue(all(set(lot_of(book, kind)) <= set(lot) for kind in lot))
            for door, (name, out, into) in zip(book[2], fans(book)):
                for kind, place, (low, high) in ((door[1], 1, out), (door[2], 2, into)):
                    for room, lot in enumerate(house[0]):
                        many = sum(1 for way in house[1] if way[0] == name and way[place] == room)
                        if kind in lot:
                            self.assertTrue(low <= many and (high is None or many <= high), (book, house))
                exact += (out, into) != door[3:]
        self.assertGreater(exact, 200)

    def test_numbers(self):
        for rand, book, house in self.houses(483, 500):
            told = counts(book, house)
            self.assertTrue(stands(book, told))
            self.assertEqual(least(book, told), told)
            self.assertEqual(most(book, told), told)
            some = tuple(rand.choice((0, number)) for number in told)
            self.assertTrue(all(a <= b for a, b in zip(least(book, some), told)))
            highs = tuple(rand.choice((None, number)) for number in told)
            self.assertTrue(all(a is None or a >= b for a, b in zip(most(book, highs), told)))

    def test_parts_of_them_can_be_finished(self):
        done = 0
        for rand, book, house in self.houses(484, 400):
            part = (tuple(tuple(sorted(rand.sample(lot, rand.randint(1, len(lot))))) for lot in house[0]),
                    tuple(way for way in house[1] if rand.random() < 0.7))
            self.assertIsNone(bar(book, part))
            full = grown(book, part)
            self.assertTrue(all(set(lot) <= set(whole) for lot, whole in zip(full[0], house[0])))
            try:
                self.assertIsNone(plain_wrong(book, finished(book, part)))
                done += 1
            except TooGreat:
                pass
        self.assertGreater(done, 300)

    def test_what_bars_is_in_no_house(self):
        """A begun house that is barred is part of no house that ends: none of those drawn has it as its first rooms."""
        rand = random.Random(485)
        barred = 0
        for rand, book, house in self.houses(486, 300):
            for _ in range(3):
                rooms = tuple(tuple(sorted(rand.sample(book[0], rand.randint(1, len(book[0]))))) for _ in house[0])
                ways = {(rand.choice(book[2])[0], rand.randrange(len(rooms)), rand.randrange(len(rooms))) for _ in range(3)} if book[2] else set()
                begun = (rooms, tuple(sorted(ways)))
                within = all(set(lot) <= set(whole) for lot, whole in zip(rooms, house[0])) and ways <= set(house[1])
                found = bar(book, begun)
                self.assertFalse(within and found is not None)
                barred += found is not None
        self.assertGreater(barred, 50)


def renamed(book, kinds, doors):
    """The book by other names, and the places that its kinds have now."""
    names = tuple(sorted(kinds[kind] for kind in book[0]))
    rules = tuple(sorted((kinds[low], kinds[high]) for low, high in book[1]))
    other = tuple(sorted((doors[name], kinds[start], kinds[goal], out, into) for name, start, goal, out, into in book[2]))
    return (names, rules, other), [names.index(kinds[kind]) for kind in book[0]]


def turned_about(book, turned):
    """The book with these doors led the other way."""
    return book[:2] + (tuple((name, goal, start, into, out) if name in turned else (name, start, goal, out, into)
                             for name, start, goal, out, into in book[2]),)


class OtherNames(unittest.TestCase):
    def test_the_same_is_told(self):
        rand = random.Random(491)
        for book in mixed_books(492, 20) + turning_books(497, 40):
            kinds = dict(zip(book[0], rand.sample(["q", "zz", "a", "mmm", "c", "abcdefgh", "b"], len(book[0]))))
            doors = dict(zip([door[0] for door in book[2]], rand.sample("abcdefxyz", len(book[2]))))
            other, places = renamed(book, kinds, doors)
            self.same(rand, book, other, kinds, places)

    def test_doors_turned_about(self):
        rand = random.Random(498)
        for book in mixed_books(499, 20) + turning_books(504, 40):
            turned = [door[0] for door in book[2] if rand.random() < 0.5]
            other = turned_about(book, turned)
            self.same(rand, book, other, {kind: kind for kind in book[0]}, list(range(len(book[0]))))
            for (name, out, into), held in zip(fans(book), fans(other)):
                self.assertEqual(held, (name, into, out) if name in turned else (name, out, into))
            house = self.begun(rand, book)
            ways = tuple(sorted((name, two, one) if name in turned else (name, one, two) for name, one, two in house[1]))
            self.assertEqual(grown(book, house)[0], grown(other, (house[0], ways))[0])
            self.assertIs(bar(book, house) is None, bar(other, (house[0], ways)) is None)
            if bar(book, house) is None:
                self.assertEqual(finish_numbers(book, house), finish_numbers(other, (house[0], ways)))

    def begun(self, rand, book):
        rooms = tuple((rand.choice(book[0]),) for _ in range(4))
        ways = {(rand.choice(book[2])[0], rand.randrange(4), rand.randrange(4)) for _ in range(3)} if book[2] else ()
        return (rooms, tuple(sorted(ways)))

    def same(self, rand, book, other, kinds, places):
        def moved(numbers):
            return numbers and tuple(number for place, number in sorted(zip(places, numbers)))

        self.assertEqual({kinds[kind] for kind in living(book)}, set(living(other)))
        for low, high in itertools.product(book[0], repeat=2):
            self.assertEqual(answer(book, low, high)[0], answer(other, kinds[low], kinds[high])[0])
        for kind in living(book):
            self.assertEqual({kinds[known] for known in lot_of(book, kind)}, set(lot_of(other, kinds[kind])))
        told = tuple(rand.randint(0, 9) * (kind in living(book) or rand.random() < 0.1) for kind in book[0])
        self.assertEqual(moved(least(book, told)), least(other, moved(told)))
        self.assertEqual(moved(most(book, told)), most(other, moved(told)))
        self.assertEqual(moved(spare(book)), spare(other))
        self.assertIs(stands(book, told), stands(other, moved(told)))


def asking_more(rand, book):
    """The book with a rule or a door more, or with a narrower fan."""
    kinds, rules, doors = book
    how = rand.random()
    if how < 0.3 and len(rules) < 10 and len(kinds) > 1:
        return (kinds, tuple(sorted(set(rules) | {tuple(rand.sample(kinds, 2))})), doors)
    if how < 0.6 and len(doors) < 6:
        door = ("zz", rand.choice(kinds), rand.choice(kinds), random_fan(rand, 4), random_fan(rand, 4))
        return (kinds, rules, doors + (door,))
    if not doors:
        return book
    at = rand.randrange(len(doors))
    name, start, goal, out, into = doors[at]
    if rand.random() < 0.5:
        out = narrower(rand, out)
    else:
        into = narrower(rand, into)
    return (kinds, rules, doors[:at] + ((name, start, goal, out, into),) + doors[at + 1:])


def narrower(rand, fan):
    low, high = fan
    return rand.choice([(more, less) for more in range(low, 5) for less in ([None] if high is None else []) + list(range(max(1, more), (high or 4) + 1))])


class BooksThatAskMore(unittest.TestCase):
    RANK = {"not": 0, "ended": 1, "ever": 2}

    def test_never_take_back_what_is_told(self):
        rand = random.Random(511)
        changed = 0
        for book in mixed_books(512, 40) + turning_books(517, 60):
            more = asking_more(rand, book)
            self.assertLessEqual(set(living(more)), set(living(book)))
            for low, high in itertools.product(book[0], repeat=2):
                word, behind = answer(book, low, high)[0], answer(more, low, high)[0]
                self.assertGreaterEqual(self.RANK[behind], self.RANK[word], (book, more, low, high))
                changed += word != behind
            told = tuple(rand.randint(0, 5) for _ in book[0])
            before, behind = least(book, told), least(more, told)
            self.assertTrue(behind is None or before is not None and all(a <= b for a, b in zip(before, behind)))
            self.assertTrue(all(a >= b for a, b in zip(most(book, told), most(more, told))))
        self.assertGreater(changed, 50)

    def test_houses_of_them_are_houses_of_the_book(self):
        rand = random.Random(518)
        for book in random_books(519, 60, kinds=4, rules=3, doors=3):
            more = asking_more(rand, book)
            numbers = spare(more)
            if more[2][:len(book[2])] and max(numbers) <= 300:
                rooms, ways = built(more, numbers)
                ways = tuple(way for way in ways if way[0] != "zz")
                self.assertIsNone(wrong_in(book, (rooms, ways)))


class JustOneWord(unittest.TestCase):
    def test_papers_of_cores_and_of_the_book(self):
        """What a core's answer shows the book's own answer shows, too; the other words have no right answer."""
        rand = random.Random(521)
        for book in turning_books(522, 60) + random_books(523, 60):
            for low, high in itertools.permutations(book[0], 2):
                told = answer(book, low, high)
                words = {told[0]}
                try:
                    small = core(book, low, high)
                except FanError:
                    continue
                self.assertEqual(answer(small, low, high)[0], told[0])
                for other in (answer(small, low, high), (rand.choice(("ever", "ended", "not")),) + told[1:]):
                    if right_answer(book, low, high, other):
                        words.add(other[0])
                self.assertEqual(words, {told[0]})


class HallsCanAlwaysBeFinished(unittest.TestCase):
    def test_behind_every_row_of_deeds(self):
        rand = random.Random(531)
        done = 0
        for book in mixed_books(532, 5):
            hall, plain = Hall(book), PlainHall(book)
            for _ in range(40):
                deed = random_deed(rand, plain)
                try:
                    plain.do(deed)
                except Refused:
                    self.assertRaises(FanError, getattr(hall, deed[0]), *deed[1:])
                    continue
                getattr(hall, deed[0])(*deed[1:])
                if rand.random() < 0.1:
                    plain.back()
                    hall.back()
                self.assertIsNone(bar(hall.book(), hall.house()))
                try:
                    house = hall.finish()
                except TooGreat:
                    self.assertTrue(stands(hall.book(), finish_numbers(hall.book(), hall.house())))
                    continue
                self.assertTrue(is_house(hall.book(), house))
                self.assertIsNone(plain_wrong(hall.book(), house))
                done += 1
        self.assertGreater(done, 300)


if __name__ == "__main__":
    unittest.main()
