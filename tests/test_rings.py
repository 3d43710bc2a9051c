"""[10]: rings, their products, all of them."""

import itertools
import unittest
from math import gcd

from fankinds.rings import is_ring, product, rings_of
from tests.samples import (as_lists, nested, odd_things, of_other_make, plain_product, plain_rings, plain_steps, random_books,
                           turns_about)

# Steps: 0 a b, 1 b c, 2 c a, 3 c d (rules), 4 a b (x out, 1/2), 5 b a (x into, 2), 6 d d (y out, 3/4), 7 d d (y into, 4/3).
BOOK = (
    ("a", "b", "c", "d"),
    (("a", "b"), ("b", "c"), ("c", "a"), ("c", "d")),
    (("x", "a", "b", (2, 2), (1, 1)), ("y", "d", "d", (4, 4), (3, 3))),
)
ALL_RINGS = ((0, 1, 2), (0, 5), (4, 1, 2), (4, 5), (6,), (7,))
DENSE = (
    ("a", "b", "c", "d", "e", "f"),
    (("a", "b"), ("a", "c"), ("b", "c"), ("b", "d"), ("c", "d"), ("c", "e"), ("d", "e"), ("d", "f"), ("e", "f"), ("f", "a")),
    (
        ("s", "a", "b", (1, 2), (1, 2)), ("t", "b", "c", (2, 2), (2, 3)), ("u", "c", "d", (1, 4), (3, 4)),
        ("v", "d", "e", (3, 3), (2, 2)), ("w", "e", "f", (4, 4), (1, 1)), ("x", "f", "a", (2, 4), (1, 3)),
    ),
)


class IsRing(unittest.TestCase):
    def yes(self, thing):
        self.assertIs(is_ring(BOOK, thing), True, thing)

    def no(self, thing):
        self.assertIs(is_ring(BOOK, thing), False, repr(thing)[:200])

    def test_of_one_step_and_of_more_turned_about(self):
        for ring in ALL_RINGS:
            for turned in turns_about(ring):
                self.yes(turned)

    def test_every_row_of_up_to_four_steps(self):
        rings = {turned for ring in ALL_RINGS for turned in turns_about(ring)}
        for many in range(5):
            for row in itertools.product(range(8), repeat=many):
                self.assertIs(is_ring(BOOK, row), row in rings)

    def test_changed(self):
        self.no(())
        self.no((0, 1))
        self.no((1, 2))
        self.no((0, 1, 3, 2))
        self.no((0, 2, 1))
        self.no((2, 1, 0))
        self.no((5, 4, 5, 4))
        self.no((4, 5, 4, 5))
        self.no((0, 5, 4, 5))
        self.no((6, 6))
        self.no((6, 7))
        self.no((0, 1, 2, 0, 1, 2))
        self.no((0, 5, 0, 1, 2))
        self.no((0,))
        self.no((3,))

    def test_numbers_of_no_step(self):
        for at in (-1, -2, -8, 8, 9, 10 ** 29, -(10 ** 29)):
            self.no((at,))
            self.no((0, at))
            self.no((at, 1, 2))
            self.no((0, 1, at))

    def test_truths_are_no_numbers(self):
        self.no((False, 5))
        self.no((0, True, 2))
        loops = (("a",), (), (("x", "a", "a", (1, 1), (1, 1)),))
        self.assertIs(is_ring(loops, (0,)), True)
        self.assertIs(is_ring(loops, (1,)), True)
        self.assertIs(is_ring(loops, (False,)), False)
        self.assertIs(is_ring(loops, (True,)), False)

    def test_other_makes(self):
        for thing in ([0, 1, 2], [6], {6: 6}, "6", 6, None, True, ((0, 1, 2),), ((6,),), ([6],), (None,), ("6",), (0, None, 2),
                      (0, "1", 2), (0, (1,), 2), (0, [1], 2), (0, {}, 2), (0, 1, 2, None)):
            self.no(thing)

    def test_odd_things(self):
        for thing in odd_things():
            self.no(thing)
            self.no((thing, 1, 2) if thing != 0 or thing is False else None)
        for ring in ALL_RINGS:
            for path, changed in of_other_make(ring):
                self.no(changed)
            for changed in as_lists(ring):
                self.no(changed)
        self.no(nested(lambda thing: (thing,), 40))
        self.no((6,) * 39999)
        self.no((4, 5) * 19999)

    def test_without_steps(self):
        for thing in ((), (0,), (-1,)):
            self.assertIs(is_ring((("a",), (), ()), thing), False)


class Product(unittest.TestCase):
    def test_ordinary(self):
        self.assertEqual([product(BOOK, ring) for ring in ALL_RINGS], [(1, 1), (2, 1), (1, 2), (1, 1), (3, 4), (4, 3)])

    def test_the_same_whichever_step_is_first_without_a_common_divisor(self):
        for book in [DENSE] + random_books(31, 120):
            steps = plain_steps(book)
            for ring in rings_of(book):
                n, d = product(book, ring)
                self.assertEqual(gcd(n, d), 1)
                worth = plain_product(steps, ring)
                self.assertEqual((n, d), (worth.numerator, worth.denominator))
                for turned in turns_about(ring):
                    self.assertEqual(product(book, turned), (n, d))


class RingsOf(unittest.TestCase):
    def test_ordinary(self):
        self.assertEqual(rings_of(BOOK), ALL_RINGS)
        self.assertEqual(rings_of((("a",), (), ())), ())
        self.assertEqual(rings_of((("a", "b"), (("a", "b"),), ())), ())
        self.assertEqual(rings_of((("a", "b"), (("a", "b"), ("b", "a")), ())), ((0, 1),))

    def test_the_least_one_is_first(self):
        book = (("a", "b"), (("b", "a"),), (("x", "a", "b", (1, 1), (0, 1)),))
        self.assertEqual(rings_of(book), ((1, 0),))

    def test_rising(self):
        for book in [DENSE] + random_books(32, 60):
            told = rings_of(book)
            self.assertTrue(all(one < other for one, other in zip(told, told[1:])))

    def test_against_a_plain_search(self):
        for book in [BOOK, DENSE] + random_books(33, 250):
            self.assertEqual(rings_of(book), tuple(sorted(plain_rings(book))))

    def test_full_books(self):
        names = tuple("abcdef")
        pairs = list(itertools.permutations(names, 2))
        exact = ((1, 1), (1, 1))
        for start in (0, 7, 13, 20):
            rules = tuple(sorted(pairs[start:start + 10]))
            ends = [pairs[(start + 3 * at) % 30] for at in range(6)]
            doors = tuple((name, one, other) + exact for name, (one, other) in zip("stuvwx", ends))
            book = (names, rules, doors)
            self.assertEqual(rings_of(book), tuple(sorted(plain_rings(book))))

    def test_many_rings(self):
        rules = tuple(sorted(itertools.permutations("abc", 2)))
        doors = tuple((name, one, other, (1, 1), (1, 1)) for name, one, other in
                      (("s", "a", "b"), ("t", "b", "c"), ("u", "c", "a"), ("v", "a", "b"), ("w", "b", "c"), ("x", "c", "a")))
        book = (("a", "b", "c"), rules, doors)
        told = rings_of(book)
        self.assertEqual(told, tuple(sorted(plain_rings(book))))
        self.assertEqual(len(told), 3 * 3 * 3 * 2 + 3 * 3 * 3)


if __name__ == "__main__":
    unittest.main()
