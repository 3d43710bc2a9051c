"""[21], [22]: begun houses finished."""

import itertools
import random
import unittest
from collections import Counter

from fankinds.begun import bar, grown
from fankinds.bounds import ROOMS
from fankinds.building import built
from fankinds.errors import Barred, TooGreat
from fankinds.finish import finish_numbers, finished
from fankinds.houses import counts, is_house, wrong_in
from fankinds.numbers import stands
from fankinds.spare import spare
from tests.plain import PlainBook
from tests.samples import all_tuples, mixed_books, random_books, turning_books
from tests.test_begun import begun_houses

ANY = (0, None)
# b is turned into a by x; d is bare by y; z leads from c to b.
BOOK = (
    ("a", "b", "c", "d"),
    (("a", "b"), ("b", "c")),
    (("x", "b", "a", (2, 4), (0, 2)), ("y", "d", "d", (2, 2), (1, 1)), ("z", "c", "b", (1, 2), (0, 3))),
)


def house_of(rooms, ways=()):
    return (tuple(tuple(lot) for lot in rooms), tuple(sorted(ways)))


class FinishNumbers(unittest.TestCase):
    def check(self, book, house, told):
        self.assertEqual(finish_numbers(book, house), told)
        self.assertEqual(PlainBook(book).finish_numbers(house), told)

    def test_without_rooms(self):
        for book in mixed_books(251, 10) + [BOOK]:
            self.assertEqual(finish_numbers(book, ((), ())), (0,) * len(book[0]))

    def test_ordinary(self):
        self.check((("a", "b"), (), ()), house_of(["a", "b", "b"]), (13, 14))
        self.check((("a", "b"), (("a", "b"),), ()), house_of(["a", "b", "b"]), (13, 15))
        self.check(BOOK, house_of(["c"]), (4, 4, 5, 0))
        self.check(BOOK, house_of(["b", "c"]), (9, 9, 10, 0))

    def test_rules_of_the_further_rooms(self):
        book = (("a", "b", "c"), (("a", "b"),), (("x", "a", "c", (1, 1), (4, 4)),))
        # Of c one is had and four more come, which want 16 of a; these nest in b's further ones.
        self.check(book, house_of(["c"]), (20, 20, 5))
        self.check(book, house_of(["ab", "b", "b"]), (48, 50, 12))

    def test_what_is_lacking(self):
        # Each begun a lacks two ways, which further rooms of b take up.
        book = (("a", "b"), (), (("x", "a", "b", (2, 2), (0, 1)),))
        self.check(book, house_of(["a"]), (5, 10))
        self.check(book, house_of(["a", "b"]), (9, 19))
        self.check(book, house_of(["a", "b"], [("x", 0, 1)]), (9, 18))

    def test_more_ways_than_the_low_already(self):
        book = (("a", "b"), (), (("x", "a", "b", (1, 4), (0, 1)),))
        for many in range(5):
            house = house_of("a" + "b" * many, [("x", 0, 1 + at) for at in range(many)])
            # Where more than one way is had the begun a lacks none; its other ways spare no further room.
            further = 4 * (1 + many) + (1 if many == 0 else 0)
            self.check(book, house, (1 + 4 * (1 + many), many + further))

    def test_highs_of_any_number(self):
        book = (("a", "b"), (), (("x", "a", "b", (4, None), (4, None)),))
        self.check(book, house_of(["a", "a", "b"]), (14, 13))
        self.check((("a", "b"), (), (("x", "a", "b", (4, None), (0, 1)),)), house_of(["a"]), (5, 20))
        self.check((("a", "b"), (), (("x", "a", "b", (0, 1), (4, None)),)), house_of(["b"]), (20, 5))

    def test_bare_kinds(self):
        self.assertEqual(finish_numbers(BOOK, house_of(["abc"] * 7))[3], 0)
        loop = ("y", "b", "b", (2, 2), (1, 1))
        for out, into in ((ANY, ANY), ((0, 2), (3, 3)), (ANY, (1, 2))):
            self.check((("a", "b"), (), (("x", "a", "b", out, into), loop)), house_of(["a"]), (5, 0))
            self.check((("a", "b"), (), (("x", "b", "a", into, out), loop)), house_of(["a"]), (5, 0))

    def test_barred(self):
        for house in (house_of(["d"]), house_of(["c", "c"], [("y", 1, 0)]),
                      house_of(["c"] * 4, [("z", 1, at) for at in range(4)])):
            for ask in (finish_numbers, finished):
                with self.assertRaises(Barred) as caught:
                    ask(BOOK, house)
                self.assertEqual(caught.exception.bar, bar(BOOK, house))

    def test_against_a_plain_going_round(self):
        seen = Counter()
        books = mixed_books(252, 25) + turning_books(257, 40) + random_books(258, 40, kinds=3, rules=2, doors=6)
        for book, plain, house in begun_houses(259, books, 4, 7):
            found = plain.bar(house)
            if found is not None:
                for ask in (finish_numbers, finished):
                    with self.assertRaises(Barred) as caught:
                        ask(book, house)
                    self.assertEqual(caught.exception.bar, found)
                seen["barred"] += 1
                continue
            told = finish_numbers(book, house)
            self.assertTrue(all_tuples(told))
            self.assertTrue(stands(book, told))
            self.assertEqual(told, plain.finish_numbers(house), (book, house))
            self.assertEqual(finish_numbers(book, house), told)
            seen[min(2, len(house[1]))] += 1
        self.assertGreater(min(seen.values()), 50, seen)
        self.assertGreater(seen[2], 200, seen)

    def test_many_rooms(self):
        rand = random.Random(260)
        for book in random_books(261, 30) + turning_books(262, 20):
            plain = PlainBook(book)
            if plain.living:
                rooms = [(rand.choice(plain.living),) for _ in range(300)]
                told = finish_numbers(book, house_of(rooms))
                self.assertTrue(stands(book, told))
                self.assertTrue(all(told[book[0].index(kind)] >= 1200 for kind in plain.living))


class Finished(unittest.TestCase):
    def check(self, book, house):
        """Whether it was finished; that it was as [22] tells."""
        full = grown(book, house)
        numbers = finish_numbers(book, house)
        rooms = len(house[0]) + max(number - had for number, had in zip(numbers, counts(book, full)))
        if rooms > ROOMS:
            with self.assertRaises(TooGreat) as caught:
                finished(book, house)
            self.assertEqual(caught.exception.bound, ROOMS)
            return False
        told = finished(book, house)
        self.assertTrue(all_tuples(told))
        self.assertTrue(is_house(book, told))
        self.assertIsNone(wrong_in(book, told), (book, house))
        self.assertEqual(told[0][:len(house[0])], full[0])
        self.assertLessEqual(set(house[1]), set(told[1]))
        self.assertEqual(counts(book, told), numbers)
        self.assertEqual(len(told[0]), rooms)
        self.assertEqual(finished(book, house), told)
        return True

    def test_without_rooms(self):
        for book in mixed_books(263, 10) + [BOOK]:
            self.assertEqual(finished(book, ((), ())), ((), ()))

    def test_ordinary(self):
        self.assertTrue(self.check(BOOK, house_of(["c"])))
        self.assertTrue(self.check(BOOK, house_of(["b", "c"], [("x", 1, 1), ("z", 0, 1)])))

    def test_rooms_tied_to_themselves(self):
        for many in range(5):
            ways = [("x", at, at) for at in range(many)] + [("z", at, at) for at in range(many)]
            self.assertTrue(self.check(BOOK, house_of(["c"] * 5, ways)))

    def test_many_ways_between_the_same_rooms(self):
        doors = tuple((name, "a", "a", (1, 4), (1, 4)) for name in "stuvwx")
        book = (("a",), (), doors)
        for pairs in (((0, 1),), ((0, 1), (1, 0)), ((0, 0), (0, 1), (1, 0), (1, 1))):
            self.assertTrue(self.check(book, house_of(["a", "a"], [(name, *pair) for name in "stuvwx" for pair in pairs])))

    def test_more_ways_than_the_low_already(self):
        for out, into in itertools.product(((1, 4), (0, 4), (4, 4), (2, None)), repeat=2):
            book = (("a", "b"), (), (("x", "a", "b", out, into),))
            for many in range(5):
                house = house_of("a" + "b" * many, [("x", 0, 1 + at) for at in range(many)])
                if bar(book, house) is None:
                    self.check(book, house)

    def test_all_small_begun_houses_by_all_fans(self):
        """One room, or two, of one kind or two, with each way or none: the least numbers leave no room to spare."""
        fans = [(low, high) for low in range(5) for high in [None] + list(range(max(1, low), 5))]
        done = 0
        for at, (out, into) in enumerate(itertools.product(fans, repeat=2)):
            for book, rooms in (((("a", "b"), (), (("x", "a", "b", out, into),)), ("a", "b", "ab", "ab")),
                                ((("a",), (), (("x", "a", "a", out, into),)), ("a", "a", "a", "a"))):
                one, other = rooms[at % 4], rooms[at // 4 % 4]
                for rooms_of, ways in (([one], []), ([one], [("x", 0, 0)]), ([one, other], [("x", 0, 1)])):
                    house = house_of(rooms_of, ways)
                    if bar(book, house) is None:
                        done += self.check(book, house)
        self.assertGreater(done, 700)

    def test_many_begun_houses(self):
        seen = Counter()
        books = mixed_books(264, 40) + turning_books(269, 60) + random_books(270, 60, kinds=3, rules=2, doors=6)
        for book, plain, house in begun_houses(271, books, 5, 9):
            if plain.bar(house) is None:
                seen[self.check(book, house), len(house[0]) > 0, len(house[1]) > 0] += 1
        self.assertGreater(seen[True, True, True], 500)

    def test_parts_of_houses_of_the_book(self):
        rand = random.Random(272)
        seen = 0
        for book in mixed_books(273, 20) + turning_books(278, 40):
            numbers = spare(book)
            if 0 < max(numbers) <= 12:
                rooms, ways = built(book, numbers)
                for share in (0, 0.5, 1):
                    house = (rooms, tuple(way for way in ways if rand.random() < share))
                    seen += self.check(book, house)
        self.assertGreater(seen, 150)

    def test_at_the_bound(self):
        free = (("a",), (), ())
        self.assertTrue(self.check(free, house_of(["a"] * 60)))
        self.assertEqual(len(finished(free, house_of(["a"] * 60))[0]), 300)
        self.assertFalse(self.check(free, house_of(["a"] * 61)))
        self.assertFalse(self.check(free, house_of(["a"] * 300)))
        for many in range(60, 70):
            doors = (("x", "a", "b", (1, 1), (1, 1)),)
            self.check((("a", "b"), (), doors), house_of(["a"] * many))
        self.assertTrue(self.check((("a", "b"), (), (("x", "a", "b", (1, 1), (1, 1)),)), house_of(["a"] * 50)))
        book = (("a", "b"), (), (("x", "a", "b", (3, 4), (0, 1)),))
        self.assertTrue(self.check(book, house_of(["a"] * 18)))
        self.assertFalse(self.check(book, house_of(["a"] * 18 + ["b"] * 2)))

    def test_barred_comes_ahead_of_the_bound(self):
        with self.assertRaises(Barred) as caught:
            finished(BOOK, house_of(["c"] * 299 + ["d"]))
        self.assertEqual(caught.exception.bar, ("bare", 299, "d"))


if __name__ == "__main__":
    unittest.main()
