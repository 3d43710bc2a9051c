"""[16]: the greatest numbers that stand."""

import itertools
import random
import unittest
from collections import Counter

from fankinds.most import most
from fankinds.numbers import stands
from tests.plain import PlainBook
from tests.samples import all_tuples, balanced_books, mixed_books, plain_steps, random_books, turning_books

ANY = (0, None)
# Divided and multiplied by fans again and again it stays whole.
GREAT = 12 ** 20


def lowered(book, told):
    """The greatest numbers by a plain going down from the told ones, GREAT for None."""
    many = {kind: GREAT if number is None else number for kind, number in zip(book[0], told)}
    before = None
    while before != many:
        before = dict(many)
        for one, other, worth, why in plain_steps(book):
            many[one] = min(many[one], int(worth * many[other]))
        for name, start, goal, out, into in book[2]:
            if many[goal] < out[0]:
                many[start] = 0
            if many[start] < into[0]:
                many[goal] = 0
    return tuple(many[kind] for kind in book[0])


def plainly_most(book, told):
    return tuple(None if number > 10 ** 9 else number for number in lowered(book, told))


def random_told(rand, book, top=40):
    none = rand.choice((0, 0.3, 0.7, 1))
    return tuple(None if rand.random() < none else rand.randint(0, top) for _ in book[0])


class Most(unittest.TestCase):
    def check(self, book, told):
        found = most(book, told)
        self.assertTrue(all_tuples(found))
        self.assertEqual(found, plainly_most(book, told), (book, told))
        self.assertEqual(most(book, told), found)
        return found

    def test_ordinary(self):
        book = (("a", "b", "c"), (("a", "b"),), (("x", "b", "c", (2, 2), (0, 1)),))
        self.assertEqual(self.check(book, (None, None, 7)), (3, 3, 7))
        self.assertEqual(self.check(book, (None, None, None)), (None, None, None))
        self.assertEqual(self.check(book, (None, 2, None)), (2, 2, None))
        self.assertEqual(self.check(book, (5, None, 40)), (5, 20, 40))
        self.assertEqual(self.check(book, (0, 0, 0)), (0, 0, 0))
        self.assertEqual(self.check(book, (40, 40, 1)), (0, 0, 1))

    def test_too_few_at_the_other_end(self):
        book = (("a", "b"), (), (("x", "a", "b", (3, None), ANY),))
        for number in range(6):
            self.assertEqual(self.check(book, (None, number)), (None if number >= 3 else 0, number))
        book = (("a", "b"), (), (("x", "a", "b", ANY, (3, None)),))
        for number in range(6):
            self.assertEqual(self.check(book, (number, None)), (number, None if number >= 3 else 0))

    def test_just_so(self):
        book = (("a", "b"), (), (("x", "a", "b", (3, 3), (4, 4)),))
        for number in range(41):
            self.assertEqual(self.check(book, (number, None)), (number // 4 * 4, number // 4 * 3) if number >= 4 else (0, 0))

    def test_bare_kinds(self):
        book = (("a", "b", "c"), (("b", "a"),), (("x", "a", "a", (2, 2), (1, 1)),))
        self.assertEqual(self.check(book, (None, None, None)), (0, 0, None))
        self.assertEqual(self.check(book, (40, 3, 2)), (0, 0, 2))
        for book in random_books(411, 80):
            found = most(book, (None,) * len(book[0]))
            bare = PlainBook(book).bare
            self.assertEqual(found, tuple(0 if kind in bare else None for kind in book[0]))

    def test_without_doors(self):
        self.assertEqual(self.check((("a",), (), ()), (None,)), (None,))
        self.assertEqual(self.check((("a",), (), ()), (17,)), (17,))
        book = (tuple("abcdef"), tuple(zip("abcde", "bcdef")), ())
        self.assertEqual(self.check(book, (None, 30, None, 20, None, 25)), (20, 20, 20, 20, 25, 25))

    def test_against_a_plain_going_down(self):
        rand = random.Random(412)
        seen = Counter()
        for book in mixed_books(413, 40) + turning_books(418, 40):
            for _ in range(5):
                told = random_told(rand, book, rand.choice((3, 12, 40)))
                for number, highest in zip(self.check(book, told), told):
                    seen[number is None, highest is None] += 1
        self.assertGreater(min(seen[pair] for pair in ((True, True), (False, True), (False, False))), 300, seen)
        self.assertEqual(seen[True, False], 0)

    def test_all_that_stand_are_at_most_these(self):
        for book in random_books(419, 40, kinds=3, rules=2, doors=2) + balanced_books(420, 40, kinds=3):
            standing = [numbers for numbers in itertools.product(range(7), repeat=len(book[0])) if stands(book, numbers)]
            for told in itertools.product((0, 1, 3, 6), repeat=len(book[0])):
                under = [numbers for numbers in standing if all(a <= b for a, b in zip(numbers, told))]
                self.assertEqual(most(book, told), tuple(max(column) for column in zip(*under)), (book, told))

    def test_as_great_as_one_likes(self):
        """Where None is told, numbers that stand are found above any; elsewhere none are above the number."""
        rand = random.Random(421)
        for book in mixed_books(422, 20):
            told = random_told(rand, book)
            found = most(book, told)
            great = lowered(book, told)
            self.assertTrue(stands(book, great))
            for number, reached, highest in zip(found, great, told):
                self.assertTrue(highest is None or reached <= highest)
                self.assertTrue(reached > 10 ** 9 if number is None else reached == number)

    def test_a_long_way_down(self):
        rand = random.Random(427)
        for _ in range(60):
            doors = []
            for name, start, goal in zip("stuvwx", "abcdef", "bcdefa"):
                low, high = rand.randint(1, 4), rand.randint(1, 4)
                doors.append((name, start, goal, (low, None), (0, high)))
            book = (tuple("abcdef"), (), tuple(doors))
            for at in range(6):
                self.check(book, tuple(40 if place == at else None for place in range(6)))


if __name__ == "__main__":
    unittest.main()
