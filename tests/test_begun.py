"""[20]: what rooms of begun houses come to be, and what bars these."""

import random
import unittest
from collections import Counter

from fankinds.begun import bar, grown
from fankinds.building import built
from fankinds.exact import fans
from fankinds.houses import is_house
from fankinds.spare import spare
from tests.plain import PlainBook
from tests.samples import all_tuples, mixed_books, random_begun, random_books, subsets, thinned, turning_books

ANY = (0, None)
# b is turned into a by x; d is bare by y, and e by its rule; z leads from c to b.
BOOK = (
    ("a", "b", "c", "d", "e"),
    (("a", "b"), ("b", "c"), ("e", "d")),
    (("x", "b", "a", (2, 4), (0, 2)), ("y", "d", "d", (2, 2), (1, 1)), ("z", "c", "b", (0, 2), (0, 3))),
)


def begun_houses(seed, books, each, most, thin=0.7):
    """Each (book, what is plainly told of it, begun house), some with bare kinds, most without bars."""
    rand = random.Random(seed)
    for book in books:
        plain = PlainBook(book)
        for _ in range(each):
            kinds = book[0] if rand.random() < 0.2 else plain.living
            lots = [lot for lot in subsets(kinds) if lot]
            house = random_begun(rand, book, lots, rand.choice((2, most)))
            if rand.random() < thin:
                house = thinned(rand, house, plain.bar)
            yield book, plain, house


class Grown(unittest.TestCase):
    def check(self, book, rooms, ways, *lots):
        house = (tuple(tuple(lot) for lot in rooms), tuple(ways))
        self.assertEqual(grown(book, house), (tuple(tuple(lot) for lot in lots), tuple(ways)))

    def test_own_kinds(self):
        self.check(BOOK, ["c", "b", "a", "ac"], [], "c", "abc", "abc", "abc")

    def test_of_bare_ones_nothing_more(self):
        self.check(BOOK, ["d", "e", "ce", "be"], [], "d", "e", "ce", "abce")

    def test_by_ways_at_either_end(self):
        self.check(BOOK, ["c", "c"], [("x", 0, 1)], "abc", "abc")
        self.check(BOOK, ["c", "c"], [("z", 0, 1)], "c", "abc")
        self.check(BOOK, ["c", "c"], [("y", 0, 1)], "cd", "cd")
        self.check(BOOK, ["d", "e"], [("z", 0, 1)], "cd", "abce")

    def test_a_way_from_a_room_to_itself(self):
        self.check(BOOK, ["c"], [("z", 0, 0)], "abc")
        self.check(BOOK, ["e"], [("y", 0, 0)], "de")

    def test_kinds_come_by_one_way_and_do_not_go_on_to_the_next_room(self):
        free = (("a", "b", "c"), (), (("x", "a", "b", ANY, ANY), ("y", "b", "c", ANY, ANY)))
        self.check(free, ["c", "c", "c"], [("x", 0, 1), ("y", 1, 2)], "ac", "bc", "c")

    def test_without_rooms(self):
        self.check(BOOK, [], [])

    def test_against_a_plain_walk(self):
        changed = Counter()
        for book, plain, house in begun_houses(231, mixed_books(232, 25), 5, 8):
            told = grown(book, house)
            self.assertEqual(told, plain.grown(house), (book, house))
            self.assertTrue(is_house(book, told) and all_tuples(told))
            self.assertEqual(grown(book, told), told)
            changed[told != house] += 1
        self.assertGreater(min(changed.values()), 100)


class Bar(unittest.TestCase):
    def check(self, rooms, ways, told, book=BOOK):
        house = (tuple(tuple(lot) for lot in rooms), tuple(sorted(ways)))
        self.assertEqual(bar(book, house), told)

    def test_nothing(self):
        self.check([], [], None)
        self.check(["a", "b", "c"], [], None)
        self.check(["a", "b", "c"], [("x", 0, 1), ("x", 0, 2), ("x", 1, 1)], None)
        self.check(["c", "c"], [("z", 0, 0), ("z", 0, 1), ("z", 1, 0), ("z", 1, 1)], None)

    def test_bare(self):
        self.check(["d"], [], ("bare", 0, "d"))
        self.check(["c", "ce", "d"], [], ("bare", 1, "e"))
        self.check(["c", "cde", "d"], [], ("bare", 1, "d"))
        self.check(["c", "a", "c"], [("y", 2, 1)], ("bare", 1, "d"))
        self.check(["c", "e", "c"], [("y", 2, 1)], ("bare", 1, "d"))

    def test_out_and_into(self):
        four = ["c"] * 4
        self.check(four, [("x", 1, at) for at in range(3)], ("out", "x", 1, 3, 2))
        self.check(four, [("x", at, 2) for at in range(4)], ("into", "x", 2, 4, 2))
        self.check(four, [("z", 3, at) for at in range(4)], ("out", "z", 3, 4, 2))
        self.check(four, [("z", at, 0) for at in range(4)], ("into", "z", 0, 4, 3))

    def test_which_comes_first(self):
        four = ["c"] * 4
        x_out = [("x", 1, at) for at in range(3)]
        x_into = [("x", at, 0) for at in range(4)]
        z_out = [("z", 0, at) for at in range(3)]
        z_into = [("z", at, 1) for at in range(4)]
        self.check(four[:3] + ["d"], x_out + z_out + x_into[:3] + z_into, ("bare", 3, "d"))
        self.check(four, set(x_out + x_into + z_out + z_into), ("out", "x", 1, 3, 2))
        self.check(four, set(x_into + z_out + z_into), ("into", "x", 0, 4, 2))
        self.check(four, set(z_out + z_into), ("out", "z", 0, 3, 2))
        self.check(four, [("z", 2, at) for at in range(3)] + [("z", 3, at) for at in range(3)], ("out", "z", 2, 3, 2))
        self.check(four, [("x", at, to) for at in range(1, 4) for to in (1, 2)], ("into", "x", 1, 3, 2))

    def test_an_exact_fan(self):
        self.assertEqual(fans(BOOK)[0], ("x", (2, 2), (2, 2)))
        five = ["c"] * 5
        for many in range(6):
            told = ("out", "x", 0, many, 2) if many > 2 else None
            self.check(five, [("x", 0, at) for at in range(many)], told)
        book = (BOOK[0], (), BOOK[2])
        self.assertEqual(fans(book)[0], ("x", (2, 4), (0, 2)))
        for many in range(6):
            told = ("out", "x", 0, many, 4) if many > 4 else None
            self.check(five, [("x", 0, at) for at in range(many)], told, book)

    def test_a_fan_of_no_ways(self):
        # A way by a door with a bare end makes a room of it a bare one, which is told first.
        book = (("a", "b"), (), (("x", "b", "b", (2, 2), (1, 1)), ("y", "a", "b", ANY, (1, 1))))
        self.assertEqual(fans(book)[1], ("y", (0, 0), (1, 1)))
        self.check(["a", "a"], [("y", 0, 1)], ("bare", 1, "b"), book)
        self.check(["a", "a"], [("y", 1, 0)], ("bare", 0, "b"), book)
        self.check(["a", "a"], [], None, book)

    def test_any_number(self):
        book = (("a",), (), (("x", "a", "a", ANY, ANY),))
        self.check(["a"] * 20, [("x", 0, at) for at in range(20)] + [("x", at, 0) for at in range(1, 20)], None, book)

    def test_against_a_plain_reading(self):
        seen = Counter()
        for book, plain, house in begun_houses(233, mixed_books(234, 25) + random_books(239, 60), 6, 8, thin=0.1):
            told = bar(book, house)
            self.assertEqual(told, plain.bar(house), (book, house))
            self.assertTrue(all_tuples(told))
            seen[told and told[0]] += 1
        self.assertGreater(min(seen[word] for word in (None, "bare", "out", "into")), 20, seen)
        self.assertGreater(seen[None], 300)

    def test_houses_of_the_book_and_parts_of_them(self):
        rand = random.Random(239)
        seen = 0
        for book in mixed_books(240, 25) + random_books(245, 60, kinds=3, rules=2, doors=3):
            numbers = spare(book)
            if 0 < max(numbers) <= 60:
                rooms, ways = built(book, numbers)
                self.assertIsNone(bar(book, (rooms, ways)))
                for _ in range(3):
                    part = tuple(way for way in ways if rand.random() < 0.6)
                    lots = tuple(tuple(sorted(rand.sample(lot, rand.randint(1, len(lot))))) for lot in rooms)
                    self.assertIsNone(bar(book, (lots, part)), (book, lots, part))
                    seen += len(part) > 0
        self.assertGreater(seen, 150)


if __name__ == "__main__":
    unittest.main()
