"""[16]: spare numbers."""

import itertools
import random
import unittest

from fankinds.bare import living
from fankinds.least import least
from fankinds.spare import right_spare, spare
from tests.samples import (all_tuples, as_lists, balanced_books, nested, odd_things, of_other_make, plain_rings, plain_steps,
                           random_books, replaced, wheel_books)
from tests.test_numbers import plainly_stand

ANY = (0, None)
# a and b are just as many, c is more than b, d bare, e alone.
BOOK = (
    ("a", "b", "c", "d", "e"),
    (("a", "b"), ("b", "c"), ("d", "a")),
    (("x", "b", "a", (3, 3), (1, 3)), ("y", "d", "d", (2, 2), (1, 1)), ("z", "c", "e", (1, 4), (2, 3))),
)


def is_spare(book, numbers):
    """[16] told once more, of numbers, by all rings."""
    many = dict(zip(book[0], numbers))
    alive = living(book)
    if not plainly_stand(book, numbers) or any((many[kind] > 0) != (kind in alive) for kind in book[0]):
        return False
    even = {at for ring, worth in plain_rings(book).items() if worth == 1 for at in ring}
    for at, (one, other, worth, why) in enumerate(plain_steps(book)):
        if one in alive and other in alive and at not in even and many[one] == worth * many[other]:
            return False
    return True


def all_books():
    full = [book for book in random_books(161, 400) if len(book[0]) == 6 and len(book[2]) == 6]
    return [BOOK] + full + random_books(162, 120, rules=4) + balanced_books(163, 150) + wheel_books(164, 8)


class Spare(unittest.TestCase):
    def test_ordinary(self):
        numbers = spare(BOOK)
        self.assertEqual(living(BOOK), ("a", "b", "c", "e"))
        a, b, c, d, e = numbers
        self.assertTrue(0 < a == b < c and d == 0 < e)
        self.assertIs(is_spare(BOOK, numbers), True)

    def test_all_bare(self):
        book = (("a", "b"), (("b", "a"),), (("x", "a", "a", (2, 2), (1, 1)),))
        self.assertEqual(spare(book), (0, 0))
        self.assertIs(right_spare(book, (0, 0)), True)
        self.assertIs(right_spare(book, (1, 1)), False)

    def test_many_books(self):
        seen = set()
        for book in all_books():
            numbers = spare(book)
            self.assertTrue(all_tuples(numbers))
            self.assertTrue(all(len(str(number)) <= 15 for number in numbers))
            self.assertIs(is_spare(book, numbers), True, book)
            self.assertIs(right_spare(book, numbers), True)
            self.assertEqual([number > 0 for number in numbers], [kind in living(book) for kind in book[0]])
            seen.add((0 in numbers, any(number > 1 for number in numbers)))
        self.assertEqual(len(seen), 4)

    def test_great_ones(self):
        rows = (((4, 4), (0, 1)), ((4, 4), (1, 1)), ((3, 3), (4, 4)), ((4, None), (1, 1)), ((3, 4), (3, 4)))
        for out, into in rows:
            doors = tuple(("pqrst"[at], "abcdef"[at], "bcdef"[at], out, into) for at in range(5))
            for back in ((), (("a", "f"),), (("f", "a"),)):
                book = (tuple("abcdef"), back, doors)
                self.assertTrue(all(len(str(number)) <= 15 for number in spare(book)))
                self.assertIs(is_spare(book, spare(book)), True)
        # A ring of product 256 / 243, as near above 1 as one is.
        fans = (((3, None), (0, 4)),) * 5 + (((4, None), (0, 1)),)
        book = (tuple("abcdef"), (), tuple(("pqrstu"[at], "abcdef"[at], "bcdefa"[at]) + fans[at] for at in range(6)))
        self.assertEqual(living(book), book[0])
        self.assertIs(is_spare(book, spare(book)), True)
        self.assertTrue(all(len(str(number)) <= 15 for number in spare(book)))


class RightSpare(unittest.TestCase):
    def test_near_to_spare_ones(self):
        seen = {True: 0, False: 0}
        for book in all_books():
            numbers = spare(book)
            near = [numbers, tuple(2 * number for number in numbers)]
            near += [tuple(10 ** 14 * number for number in numbers)]
            for at, number in itertools.product(range(len(numbers)), (1, -1)):
                near.append(replaced(numbers, (at,), numbers[at] + number))
            near += [replaced(numbers, (at,), 0) for at in range(len(numbers))]
            for some in near:
                right = right_spare(book, some)
                self.assertIs(right, min(some) >= 0 and is_spare(book, some), (book, some))
                seen[right] += 1
            self.assertIs(right_spare(book, near[1]), True)
        self.assertGreater(min(seen.values()), 500)

    def test_least_and_drawn_numbers(self):
        rand = random.Random(165)
        seen = {True: 0, False: 0}
        for book in all_books():
            tolds = [tuple(rand.randint(1, 40) if kind in living(book) else 0 for kind in book[0]) for _ in range(3)]
            for some in tolds + [least(book, told) for told in tolds]:
                self.assertIs(right_spare(book, some), is_spare(book, some))
                seen[right_spare(book, some)] += 1
        self.assertGreater(min(seen.values()), 50)

    def test_just_so(self):
        book = (("a", "b"), (("a", "b"),), ())
        for a, b in itertools.product(range(-1, 5), repeat=2):
            self.assertIs(right_spare(book, (a, b)), 0 < a < b)
        book = (("a", "b"), (("a", "b"), ("b", "a")), ())
        for a, b in itertools.product(range(-1, 5), repeat=2):
            self.assertIs(right_spare(book, (a, b)), 0 < a == b)
        book = (("a", "b"), (), (("x", "a", "b", (2, 3), (1, 4)),))
        for a, b in itertools.product(range(12), repeat=2):
            self.assertIs(right_spare(book, (a, b)), a > 0 and b > 1 and a < 2 * b and b < 3 * a)

    def test_more_or_fewer_parts(self):
        numbers = spare(BOOK)
        for some in ((), numbers[:-1], numbers[1:], numbers + (0,), numbers + (1,), numbers + numbers, (numbers,), 2 * (numbers,)):
            self.assertIs(right_spare(BOOK, some), False)

    def test_lists_truths_texts(self):
        book = (("a", "b"), (("a", "b"),), ())
        self.assertIs(right_spare(book, (1, 2)), True)
        for thing in ([1, 2], (True, 2), ("1", 2), (1, "2"), "12", (1, None), (-1, 2), (1, -2), (False, 2), {1: 2}, 12, None, True):
            self.assertIs(right_spare(book, thing), False, thing)
        bare = (("a", "b"), (), (("x", "a", "a", (2, 2), (1, 1)),))
        self.assertIs(right_spare(bare, (0, 1)), True)
        for thing in ((False, 1), (0, True), (-1, 1), (None, 1)):
            self.assertIs(right_spare(bare, thing), False)

    def test_odd_things(self):
        numbers = spare(BOOK)
        for thing in odd_things():
            self.assertIs(right_spare(BOOK, thing), False)
        for path, changed in of_other_make(numbers):
            self.assertIs(right_spare(BOOK, changed), False)
        for changed in as_lists(numbers):
            self.assertIs(right_spare(BOOK, changed), False)
        self.assertIs(right_spare(BOOK, nested(lambda thing: (thing,) * 5, 5)), False)
        self.assertIs(right_spare(BOOK, (1,) * 9000), False)


if __name__ == "__main__":
    unittest.main()
