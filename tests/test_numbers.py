"""[14]: numbers that stand."""

import itertools
import random
import unittest

from fankinds.numbers import stands
from tests.samples import (balanced_books, can_have_rooms, plain_steps, raised_to_stand, random_books, wheel_books)

ANY = (0, None)


def plainly_stand(book, numbers):
    """[9] and [14] told once more."""
    many = dict(zip(book[0], numbers))
    if any(many[one] > worth * many[other] for one, other, worth, why in plain_steps(book)):
        return False
    for name, start, goal, out, into in book[2]:
        if many[start] > 0 and many[goal] < out[0]:
            return False
        if many[goal] > 0 and many[start] < into[0]:
            return False
    return True


def least_plainly(book, told):
    """The least numbers from the told ones on that stand; None where there are none."""
    if any(number > 0 and not can_have_rooms(book, kind) for kind, number in zip(book[0], told)):
        return None
    many = raised_to_stand(book, dict(zip(book[0], told)), most=10 ** 30)
    return tuple(many[kind] for kind in book[0])


class Stands(unittest.TestCase):
    def test_all_0(self):
        for book in random_books(101, 50) + wheel_books(102, 5):
            self.assertIs(stands(book, (0,) * len(book[0])), True)

    def test_rules(self):
        book = (("a", "b", "c"), (("b", "a"), ("c", "b")), ())
        for numbers in itertools.product(range(4), repeat=3):
            self.assertIs(stands(book, numbers), numbers[0] >= numbers[1] >= numbers[2])

    def test_a_door(self):
        book = (("a", "b"), (), (("x", "a", "b", (2, 3), (1, 2)),))
        for a, b in itertools.product(range(12), repeat=2):
            right = 2 * a <= 2 * b and b <= 3 * a and (a == 0 or b >= 2) and (b == 0 or a >= 1)
            self.assertIs(stands(book, (a, b)), right, (a, b))

    def test_a_door_of_any_number(self):
        book = (("a", "b"), (), (("x", "a", "b", (3, None), (2, None)),))
        for a, b in itertools.product(range(6), repeat=2):
            self.assertIs(stands(book, (a, b)), (a, b) == (0, 0) or a >= 2 and b >= 3)
        book = (("a", "b"), (), (("x", "a", "b", (3, None), ANY),))
        for a, b in itertools.product(range(6), repeat=2):
            self.assertIs(stands(book, (a, b)), a == 0 or b >= 3)
        book = (("a", "b"), (), (("x", "a", "b", (0, 2), (4, None)),))
        for a, b in itertools.product(range(12), repeat=2):
            self.assertIs(stands(book, (a, b)), 4 * b <= 2 * a and (b == 0 or a >= 4))

    def test_a_door_from_a_kind_to_itself(self):
        for out, into, least in (((3, 3), (3, 3), 3), ((1, 4), (0, None), 1), ((0, 1), (0, 4), 0), ((0, 4), (4, None), 4)):
            book = (("a",), (), (("x", "a", "a", out, into),))
            for a in range(8):
                self.assertIs(stands(book, (a,)), a == 0 or a >= least)
        book = (("a",), (), (("x", "a", "a", (2, 2), (1, 1)),))
        self.assertEqual([a for a in range(50) if stands(book, (a,))], [0])

    def test_great_numbers(self):
        book = (("a", "b"), (("a", "b"),), (("x", "b", "a", (3, 3), (1, 4)),))
        self.assertIs(stands(book, (3 * 10 ** 28, 4 * 10 ** 28)), True)
        self.assertIs(stands(book, (3 * 10 ** 28 - 1, 4 * 10 ** 28)), False)
        self.assertIs(stands(book, (3 * 10 ** 28, 3 * 10 ** 28 - 1)), False)

    def test_drawn_numbers(self):
        rand = random.Random(103)
        seen = {True: 0, False: 0}
        for book in random_books(104, 300, doors=2, rules=3) + balanced_books(105, 300) + wheel_books(106, 10):
            for top in (1, 2, 4, 8, 40, 40):
                numbers = tuple(rand.randint(top // 2, top) for _ in book[0])
                self.assertIs(stands(book, numbers), plainly_stand(book, numbers))
                seen[stands(book, numbers)] += 1
        self.assertGreater(min(seen.values()), 100)

    def test_least_numbers_and_these_with_one_more_or_less(self):
        rand = random.Random(107)
        seen = {True: 0, False: 0}
        for book in random_books(108, 300) + balanced_books(109, 300):
            numbers = least_plainly(book, tuple(rand.choice((0, 1, 5, 40)) for _ in book[0]))
            if numbers is None:
                continue
            self.assertIs(stands(book, numbers), True)
            for at, more in itertools.product(range(len(numbers)), (1, -1)):
                changed = numbers[:at] + (max(0, numbers[at] + more),) + numbers[at + 1:]
                self.assertIs(stands(book, changed), plainly_stand(book, changed))
                seen[stands(book, changed)] += 1
        self.assertGreater(min(seen.values()), 100)


if __name__ == "__main__":
    unittest.main()
