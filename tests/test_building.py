"""[14]: houses built with just so many rooms of each kind."""

import itertools
import random
import unittest

from fankinds.bounds import ROOMS
from fankinds.building import built
from fankinds.errors import TooGreat
from fankinds.houses import is_house, wrong_in
from fankinds.least import least
from fankinds.numbers import stands
from fankinds.parting import parting
from fankinds.spare import spare
from tests.samples import all_tuples, mixed_books, random_books

ANY = (0, None)
BOOK = (("a", "b", "c"), (("a", "b"),), (("x", "a", "c", (2, 3), (0, 2)), ("y", "c", "b", ANY, (1, 1))))


class Built(unittest.TestCase):
    def check(self, book, numbers):
        if max(numbers) > ROOMS:
            self.too_great(book, numbers)
            return
        house = built(book, numbers)
        self.assertTrue(all_tuples(house))
        self.assertIs(is_house(book, house), True)
        self.assertIsNone(wrong_in(book, house), (book, numbers))
        self.assertEqual(len(house[0]), max(numbers))
        for kind, number in zip(book[0], numbers):
            self.assertEqual(sum(1 for lot in house[0] if kind in lot), number)
        self.assertEqual(built(book, numbers), house)

    def too_great(self, book, numbers):
        with self.assertRaises(TooGreat) as caught:
            built(book, numbers)
        self.assertEqual(caught.exception.bound, ROOMS)

    def test_ordinary(self):
        self.check(BOOK, (1, 2, 2))
        self.check(BOOK, (2, 2, 2))
        self.check(BOOK, (0, 1, 1))
        self.check(BOOK, (3, 7, 5))
        self.assertEqual(built((("a", "b"), (("a", "b"),), ()), (1, 2)), ((("a", "b"), ("b",)), ()))

    def test_all_0(self):
        for book in random_books(201, 40) + [BOOK]:
            self.assertEqual(built(book, (0,) * len(book[0])), ((), ()))

    def test_all_small_numbers_that_stand(self):
        seen = 0
        for book in random_books(202, 60, kinds=3, rules=2, doors=2) + [BOOK]:
            for numbers in itertools.product(range(6), repeat=len(book[0])):
                if stands(book, numbers):
                    self.check(book, numbers)
                    seen += 1
        self.assertGreater(seen, 800)

    def test_least_and_spare_ones_sums_and_multiples(self):
        rand = random.Random(203)
        great = 0
        for book in mixed_books(204, 40):
            known = [spare(book)] + [found[1] for kind in book[0] if (found := parting(book, kind, rand.choice(book[0])))]
            for kind in book[0]:
                told = tuple(rand.randint(0, 12) if k == kind else 0 for k in book[0])
                known.append(least(book, told) or spare(book))
            for _ in range(4):
                one, other = rand.choice(known), rand.choice(known)
                known.append(tuple(2 * a + b for a, b in zip(one, other)))
                known.append(tuple(max(pair) for pair in zip(one, other)))
            for numbers in known:
                self.assertTrue(stands(book, numbers))
                self.check(book, numbers)
                great += max(numbers) > ROOMS
        self.assertGreater(great, 0)

    def test_at_the_bound_and_beyond(self):
        for rooms in (299, 300, 301, 302, 600, 10 ** 6, 10 ** 29):
            self.check((("a",), (), ()), (rooms,))
            self.check((("a",), (), (("x", "a", "a", (4, 4), (4, 4)),)), (rooms,))
            self.check(BOOK, (1, rooms, rooms))
        self.check(BOOK, (150, 300, 300))
        self.check((("a", "b"), (), (("x", "a", "b", (4, 4), (1, 1)),)), (75, 300))
        self.too_great((("a", "b"), (), (("x", "a", "b", (4, 4), (1, 1)),)), (76, 304))

    def test_many_of_one_and_few_of_another(self):
        for few in (1, 2, 3, 4):
            self.check((("a", "b"), (), (("x", "a", "b", (few, None), ANY),)), (300, few))
            self.check((("a", "b"), (), (("x", "b", "a", ANY, (few, None)),)), (300, few))


if __name__ == "__main__":
    unittest.main()
