"""[17]: partings, and houses by them."""

import itertools
import random
import unittest

from fankinds.bare import living
from fankinds.bounds import ROOMS
from fankinds.errors import NoParting, TooGreat
from fankinds.houses import counts, is_house, wrong_in
from fankinds.numbers import stands
from fankinds.parting import parted, parting, right_parting
from fankinds.turned import lot_of
from tests.samples import (all_tuples, as_lists, balanced_books, nested, odd_things, of_other_make, raised_to_stand, random_books,
                           replaced, subsets, wheel_books)
from tests.test_numbers import plainly_stand

ANY = (0, None)
# b is within c and d, and a within b; each room of c has two ways to rooms of e, of which each has at most three.
BOOK = (
    ("a", "b", "c", "d", "e"),
    (("a", "b"), ("b", "c"), ("b", "d")),
    (("x", "c", "e", (2, None), (0, 3)), ("y", "e", "a", (1, 1), (0, 2)), ("z", "b", "e", ANY, ANY)),
)
LOT = ("b", "c", "d")
NUMBERS = (1, 2, 2, 2, 2)


def plainly_right(book, low, high, lot, numbers):
    """[17] told once more, of a lot and numbers."""
    many = dict(zip(book[0], numbers))
    if low not in lot or high in lot or list(lot) != sorted(set(lot)) or any(one in lot and two not in lot for one, two in book[1]):
        return False
    if not plainly_stand(book, numbers) or any(many[kind] == 0 for kind in lot):
        return False
    return all(many[two] > many[one] for one, two in book[1] if two in lot and one not in lot)


def many_books(seed):
    books = random_books(seed, 120) + random_books(seed + 1, 60, rules=3, doors=3) + balanced_books(seed + 2, 120)
    return books + wheel_books(seed + 3, 5) + [BOOK]


class RightParting(unittest.TestCase):
    def yes(self, lot, numbers, low="b", high="a"):
        self.assertIs(right_parting(BOOK, low, high, (lot, numbers)), True, (lot, numbers))

    def no(self, lot, numbers, low="b", high="a"):
        self.assertIs(right_parting(BOOK, low, high, (lot, numbers)), False, repr((lot, numbers))[:200])

    def test_right(self):
        self.assertEqual(lot_of(BOOK, "b"), LOT)
        self.yes(LOT, NUMBERS)
        self.yes(LOT, NUMBERS, low="c")
        self.yes(LOT, NUMBERS, high="e")
        self.yes(("b", "c", "d", "e"), NUMBERS)

    def test_greater_numbers(self):
        for more in (2, 3, 10 ** 20):
            self.yes(LOT, tuple(more * number for number in NUMBERS))
        self.yes(LOT, (1, 2, 3, 2, 2))
        self.yes(LOT, (1, 2, 2, 40, 2))
        self.yes(LOT, (2, 3, 3, 3, 4))

    def test_other_kinds(self):
        for low, high in itertools.product(BOOK[0], repeat=2):
            told = right_parting(BOOK, low, high, (LOT, NUMBERS))
            self.assertIs(told, low in LOT and high not in LOT)

    def test_lots(self):
        self.no(("c", "d"), NUMBERS)
        self.no(("a", "b", "c", "d"), (2, 2, 2, 2, 2))
        self.no(("b", "c"), NUMBERS)
        self.no(("b", "d"), NUMBERS)
        self.no(("b",), NUMBERS)
        self.no(("c", "b", "d"), NUMBERS)
        self.no(("b", "c", "d", "d"), NUMBERS)
        self.no(("b", "c", "d", "f"), NUMBERS)
        self.no((), NUMBERS)
        self.no(list(LOT), NUMBERS)
        self.no("bcd", NUMBERS)
        self.no(("b", "c", "d", None), NUMBERS)

    def test_numbers_that_do_not_stand(self):
        self.no(LOT, (1, 2, 3, 2, 1))
        self.no(LOT, (1, 3, 2, 3, 2))
        self.no(LOT, (0, 2, 2, 2, 2))
        self.no(LOT, (0, 1, 1, 1, 1))
        self.no(LOT, (1, 2, 2, 2, 3))

    def test_0_of_a_kind_of_the_lot(self):
        self.no(LOT, (0, 0, 0, 0, 0))
        free = (("a", "b"), (), ())
        for numbers in itertools.product(range(3), repeat=2):
            self.assertIs(right_parting(free, "a", "b", (("a",), numbers)), numbers[0] > 0)
        more = (("a", "b", "c"), (), ())
        for numbers in itertools.product(range(3), repeat=3):
            self.assertIs(right_parting(more, "a", "b", (("a", "c"), numbers)), numbers[0] > 0 and numbers[2] > 0)

    def test_a_rule_from_outside_that_is_just_so(self):
        self.no(LOT, (2, 2, 2, 2, 2))
        self.no(LOT, (1, 1, 2, 2, 2))
        book = (("a", "b", "c"), (("a", "b"), ("b", "c")), ())
        for numbers in itertools.product(range(4), repeat=3):
            a, b, c = numbers
            self.assertIs(right_parting(book, "c", "b", (("c",), numbers)), a <= b < c)
            self.assertIs(right_parting(book, "b", "a", (("b", "c"), numbers)), a < b <= c)
            self.assertIs(right_parting(book, "b", "a", (("c",), numbers)), False)

    def test_other_lengths(self):
        for thing in ((), (LOT,), (LOT, NUMBERS, ()), [LOT, NUMBERS], (NUMBERS, LOT), LOT, NUMBERS, ((LOT, NUMBERS),), None, LOT + NUMBERS):
            self.assertIs(right_parting(BOOK, "b", "a", thing), False)
        for numbers in (NUMBERS[:-1], NUMBERS + (2,), (), list(NUMBERS), (True, 2, 2, 2, 2), (1, 2, 2, 2, "2"), (1, 2, 2, 2, None),
                        (-1, 2, 2, 2, 2), "12222", None, 12222, {}):
            self.no(LOT, numbers)

    def test_odd_things(self):
        for thing in odd_things():
            self.assertIs(right_parting(BOOK, "b", "a", thing), False)
            self.no(thing, NUMBERS)
            self.no(LOT, thing)
            for at in range(3):
                self.no(replaced(LOT, (at,), thing) if thing != LOT[at] else None, NUMBERS)
        self.assertIs(right_parting(BOOK, "b", "a", nested(lambda thing: (thing, thing), 10)), False)
        self.no(LOT * 3000, NUMBERS)
        self.no(LOT, NUMBERS * 3000)

    def test_odd_parts_at_any_depth(self):
        for path, changed in of_other_make((LOT, NUMBERS)):
            self.assertIs(right_parting(BOOK, "b", "a", changed), False, path)
        for changed in as_lists((LOT, NUMBERS)):
            self.assertIs(right_parting(BOOK, "b", "a", changed), False)

    def test_drawn_ones(self):
        rand = random.Random(171)
        seen = {True: 0, False: 0}
        for book in random_books(172, 150, kinds=4, rules=3, doors=2) + balanced_books(173, 80, kinds=4):
            lots = [lot for lot in subsets(book[0]) if lot]
            for _ in range(60):
                low, high, lot = rand.choice(book[0]), rand.choice(book[0]), rand.choice(lots)
                numbers = tuple(rand.randint(0, rand.choice((2, 6))) for _ in book[0])
                told = right_parting(book, low, high, (lot, numbers))
                self.assertIs(told, plainly_right(book, low, high, lot, numbers), (book, low, high, lot, numbers))
                seen[told] += 1
        self.assertGreater(min(seen.values()), 100)


def least_parting(book, lot):
    """The least numbers of a parting with that lot, by a plain going round."""
    strict = [(one, two) for one, two in book[1] if two in lot and one not in lot]
    many = raised_to_stand(book, {kind: int(kind in lot) for kind in book[0]}, strict, most=10 ** 9)
    return tuple(many[kind] for kind in book[0])


class Parting(unittest.TestCase):
    def test_ordinary(self):
        self.assertEqual(parting(BOOK, "b", "a"), (LOT, NUMBERS))
        self.assertEqual(parting(BOOK, "e", "a"), (("e",), (1, 1, 1, 1, 2)))
        self.assertEqual(parting(BOOK, "d", "b"), (("d",), (0, 0, 0, 1, 0)))
        for low, high in (("a", "b"), ("a", "d"), ("b", "b"), ("b", "c")):
            self.assertIsNone(parting(BOOK, low, high))

    def test_bare(self):
        book = (("a", "b", "c"), (("a", "b"),), (("x", "a", "a", (2, 2), (1, 1)),))
        for high in "abc":
            self.assertIsNone(parting(book, "a", high))
        self.assertEqual(parting(book, "b", "a"), (("b",), (0, 1, 0)))

    def test_many_books(self):
        seen = set()
        for book in many_books(174):
            alive = living(book)
            for low, high in itertools.product(book[0], repeat=2):
                told = parting(book, low, high)
                self.assertTrue(all_tuples(told))
                self.assertIs(told is None, low not in alive or high in lot_of(book, low))
                seen.add((low in alive, told is None))
                if told is not None:
                    lot, numbers = told
                    self.assertEqual(lot, lot_of(book, low))
                    self.assertIs(right_parting(book, low, high, told), True, (book, low, high))
                    self.assertIs(plainly_right(book, low, high, lot, numbers), True)
                    self.assertEqual(numbers, least_parting(book, lot), (book, low, high))
        self.assertEqual(len(seen), 3)

    def test_no_less_than_in_any_others(self):
        found = 0
        for book in random_books(178, 60, kinds=3, rules=3, doors=2) + balanced_books(179, 60, kinds=3):
            others = [numbers for numbers in itertools.product(range(8), repeat=len(book[0])) if stands(book, numbers)]
            for low, high in itertools.permutations(book[0], 2):
                told = parting(book, low, high)
                if told is not None:
                    right = [numbers for numbers in others if plainly_right(book, low, high, told[0], numbers)]
                    self.assertTrue(right or max(told[1]) > 7)
                    if right:
                        self.assertEqual(told[1], tuple(min(column) for column in zip(*right)))
                        found += 1
        self.assertGreater(found, 100)


class Parted(unittest.TestCase):
    def check(self, book, low, high):
        told = parting(book, low, high)
        if told is None:
            self.assertRaises(NoParting, parted, book, low, high)
            return None
        lot, numbers = told
        rooms = 1 + max(number - (kind in lot) for kind, number in zip(book[0], numbers))
        if rooms > ROOMS:
            with self.assertRaises(TooGreat) as caught:
                parted(book, low, high)
            self.assertEqual(caught.exception.bound, ROOMS)
            return rooms
        house = parted(book, low, high)
        self.assertTrue(all_tuples(house))
        self.assertIs(is_house(book, house), True)
        self.assertIsNone(wrong_in(book, house), (book, low, high))
        self.assertEqual(counts(book, house), numbers)
        self.assertEqual(house[0][-1], lot)
        self.assertEqual(len(house[0]), rooms)
        return rooms

    def test_ordinary(self):
        house = parted(BOOK, "b", "a")
        self.assertEqual(house[0], (("a", "b", "c", "d", "e"), ("e",), LOT))
        self.check(BOOK, "b", "a")
        self.assertEqual(parted(BOOK, "d", "b"), ((("d",),), ()))

    def test_many_books(self):
        sizes = set()
        for book in many_books(180):
            for low, high in itertools.product(book[0], repeat=2):
                sizes.add(self.check(book, low, high))
        self.assertLess({None, 1, 2, 3, 4, 5}, sizes)

    def test_many_rooms(self):
        sizes = set()
        for fans in itertools.product(((4, 4), (3, 3), (2, 2), (1, 1)), repeat=5):
            doors = tuple(("pqrst"[at], "abcdef"[at], "bcdef"[at], out, (1, 1)) for at, out in enumerate(fans))
            sizes.add(self.check((tuple("abcdef"), (), doors), "a", "b"))
        self.assertLess({2, 257, 289, 325, 1025}, sizes)

    def test_at_the_bound(self):
        # Each f wants some b, so that there are 24 of d, one more of a, and of f twelve times as many.
        doors = (("s", "c", "a", (1, 1), (3, 3)), ("t", "f", "b", (4, None), ANY), ("u", "c", "f", (4, None), (1, 1)),
                 ("v", "e", "d", (3, 3), (1, 1)), ("w", "b", "e", (4, 4), (1, 2)))
        without = (tuple("abcdef"), (("d", "a"),), doors)
        within = (tuple("abcdef"), (("a", "f"), ("d", "a")), doors)
        self.assertEqual(parting(without, "a", "b"), (("a",), (25, 4, 75, 24, 8, 300)))
        self.assertEqual(parting(within, "a", "b"), (("a", "f"), (25, 4, 75, 24, 8, 300)))
        self.assertEqual(self.check(without, "a", "b"), ROOMS + 1)
        self.assertEqual(self.check(within, "a", "b"), ROOMS)
        self.assertEqual(len(parted(within, "a", "b")[0]), ROOMS)

    def test_no_parting_comes_ahead_of_the_bound(self):
        doors = tuple(("pqrst"[at], "abcdef"[at], "bcdef"[at], (4, 4), (1, 1)) for at in range(5))
        book = (tuple("abcdef"), (), doors)
        self.assertRaises(NoParting, parted, book, "a", "a")
        self.assertRaises(TooGreat, parted, book, "a", "b")


if __name__ == "__main__":
    unittest.main()
