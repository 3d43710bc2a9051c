"""[12]: long rows."""

import itertools
import unittest

from fankinds.bare import living
from fankinds.turned import long_row, lot_of, right_long
from tests.samples import (as_lists, balanced_books, nested, odd_things, of_other_make, plain_rings, plain_steps, raised_to_stand,
                           random_books, subsets, turns_about, wheel_books)

ANY = (0, None)
# Steps: 0 a b, 1 b c, 2 b d (rules), 3 c a (x out, 1), 4 a c (x into, 1), 5 d a (y out, 2), 6 b a (z out, 1).
BOOK = (
    ("a", "b", "c", "d", "e"),
    (("a", "b"), ("b", "c"), ("b", "d")),
    (("x", "c", "a", (1, 1), (1, 1)), ("y", "d", "a", (1, None), (0, 2)), ("z", "b", "a", (2, 2), (0, 2))),
)
A_B = ("rule", "a", "b")
B_C = ("rule", "b", "c")
B_D = ("rule", "b", "d")
B_A = ("turned", "b", "a", (0, 1, 3))
C_B = ("turned", "c", "b", (1, 3, 0))


class RightLong(unittest.TestCase):
    def yes(self, low, high, *links):
        self.assertIs(right_long(BOOK, low, high, links), True, links)

    def no(self, low, high, *links):
        self.assertIs(right_long(BOOK, low, high, links), False, repr(links)[:200])

    def test_without_links(self):
        for low in BOOK[0]:
            for high in BOOK[0]:
                self.assertIs(right_long(BOOK, low, high, ()), low == high)

    def test_rules(self):
        self.yes("a", "b", A_B)
        self.yes("a", "c", A_B, B_C)
        self.yes("a", "d", A_B, B_D)
        self.no("b", "a", A_B)
        self.no("a", "c", A_B)
        self.no("a", "a", A_B)

    def test_turned_rules_with_the_step_anywhere(self):
        for ring in turns_about((0, 1, 3)):
            self.yes("b", "a", ("turned", "b", "a", ring))
            self.yes("c", "b", ("turned", "c", "b", ring))
        for ring in turns_about((0, 6)):
            self.yes("b", "a", ("turned", "b", "a", ring))

    def test_chains(self):
        self.yes("c", "a", C_B, B_A)
        self.yes("c", "d", C_B, B_D)
        self.yes("b", "b", B_C, C_B)
        self.yes("a", "a", A_B, B_A)
        self.yes("a", "b", A_B, B_A, A_B)
        self.yes("c", "c", C_B, B_A, A_B, B_C)

    def test_broken_chains(self):
        self.no("a", "c", B_C, A_B)
        self.no("a", "c", A_B, A_B)
        self.no("a", "c", B_C)
        self.no("c", "d", B_D)
        self.no("a", "a", B_A)
        self.no("a", "d", A_B, C_B, B_D)
        self.no("a", "c", A_B, B_C, B_D)
        self.no("a", "b", A_B, B_A)

    def test_other_ends(self):
        for low, high in itertools.product(BOOK[0], repeat=2):
            self.assertIs(right_long(BOOK, low, high, (C_B, B_A)), (low, high) == ("c", "a"))
            self.assertIs(right_long(BOOK, low, high, (A_B, B_D)), (low, high) == ("a", "d"))

    def test_no_rules(self):
        self.no("a", "c", ("rule", "a", "c"))
        self.no("b", "a", ("rule", "b", "a"))
        self.no("a", "a", ("rule", "a", "a"))
        self.no("c", "a", ("turned", "c", "a", (0, 1, 3)))
        self.no("a", "b", ("turned", "a", "b", (0, 1, 3)))
        self.no("a", "e", ("rule", "a", "e"))
        self.no("a", "c", ("turned", "a", "c", (3, 4)))
        self.no("c", "a", ("turned", "c", "a", (3, 4)))

    def test_rings_of_another_product(self):
        self.no("d", "b", ("turned", "d", "b", (2, 5, 0)))
        self.no("b", "a", ("turned", "b", "a", (0, 2, 5)))
        tight = (("a", "b"), (("a", "b"),), (("x", "b", "a", (2, 2), (1, 1)),))
        self.assertIs(right_long(tight, "b", "a", (("turned", "b", "a", (0, 1)),)), False)

    def test_rings_without_the_step(self):
        self.no("c", "b", ("turned", "c", "b", (0, 6)))
        self.no("b", "a", ("turned", "b", "a", (3, 4)))
        self.no("d", "b", ("turned", "d", "b", (0, 1, 3)))
        beside = (("a", "b"), (("a", "b"),), (("x", "a", "b", (1, 1), (1, 1)),))
        self.assertIs(right_long(beside, "b", "a", (("turned", "b", "a", (1, 2)),)), False)
        self.assertIs(right_long(beside, "b", "a", (("turned", "b", "a", (0, 2)),)), True)

    def test_no_rings(self):
        for ring in ((), (0,), (0, 1), (0, 3, 1), (0, 1, 3, 0, 1, 3), [0, 1, 3], (False, 1, 3), (0, True, 3), (0, 1, 9), None,
                     "013", 0, True, {}, ((0, 1, 3),), (0, 1, 3, -1)):
            self.no("b", "a", ("turned", "b", "a", ring))

    def test_other_lengths_and_words(self):
        self.no("a", "b", ())
        self.no("a", "b", ("rule", "a"))
        self.no("a", "b", ("rule", "a", "b", (0, 1, 3)))
        self.no("a", "b", ("a", "b"))
        self.no("a", "b", ("rules", "a", "b"))
        self.no("b", "a", ("turned", "b", "a"))
        self.no("b", "a", ("turned", "b", "a", (0, 1, 3), ()))
        self.no("b", "a", ("turn", "b", "a", (0, 1, 3)))
        self.no("a", "b", ("turned", "a", "b"))

    def test_odd_things(self):
        for thing in odd_things():
            self.assertIs(right_long(BOOK, "a", "b", thing), False)
            self.assertIs(right_long(BOOK, "a", "a", thing), isinstance(thing, tuple) and thing == ())
            self.no("a", "b", thing)
            self.no("a", "b", A_B, thing)
            self.no("b", "a", ("turned", "b", "a", thing))
            self.no("c", "a", ("turned", "c", thing, (0, 1, 3)))
            self.no("a", "c", ("rule", "a", thing))

    def test_odd_parts_at_any_depth(self):
        row = (C_B, B_A, A_B, B_D)
        self.yes("c", "d", *row)
        for path, changed in of_other_make(row):
            self.assertIs(right_long(BOOK, "c", "d", changed), False)
        for changed in as_lists(row):
            self.assertIs(right_long(BOOK, "c", "d", changed), False)
        self.assertIs(right_long(BOOK, "c", "d", nested(lambda thing: (thing,), 40)), False)
        self.assertIs(right_long(BOOK, "a", "a", (A_B, B_A) * 2000), True)
        self.assertIs(right_long(BOOK, "a", "a", (A_B, B_A) * 2000 + (A_B,)), False)

    def test_bare_kinds_have_long_rows_too(self):
        doors = (("x", "a", "a", (2, 2), (1, 1)),)
        book = (("a", "b"), (("a", "b"), ("b", "a")), doors)
        self.assertEqual(living(book), ())
        self.assertIs(right_long(book, "b", "a", (("turned", "b", "a", (0, 1)),)), True)


def fewest_links(book, low):
    """How many links, at the fewest, lead from low to each kind, by all rings of product 1."""
    steps = plain_steps(book)
    turned = {at for ring, worth in plain_rings(book).items() if worth == 1 for at in ring}
    pairs = [rule for rule in book[1]]
    pairs += [(steps[at][1], steps[at][0]) for at in turned if steps[at][3] == ("rule",)]
    fewest = {low: 0}
    for many in range(1, len(book[0])):
        for one, other in pairs:
            if fewest.get(one) == many - 1:
                fewest.setdefault(other, many)
    return fewest


class LongRows(unittest.TestCase):
    def check(self, book):
        for low in living(book):
            fewest = fewest_links(book, low)
            self.assertEqual(lot_of(book, low), tuple(sorted(fewest)))
            for high in book[0]:
                row = long_row(book, low, high)
                self.assertEqual(row is not None, high in fewest, (book, low, high))
                if row is not None:
                    self.assertIs(right_long(book, low, high, row), True)
                    self.assertEqual(len(row), fewest[high])
                    self.seen |= {link[0] for link in row}
                    self.seen.add(len(row))
                self.seen.add(row)

    def test_ordinary(self):
        self.assertEqual(living(BOOK), BOOK[0])
        self.assertEqual(long_row(BOOK, "a", "b"), (A_B,))
        self.assertEqual(long_row(BOOK, "a", "c"), (A_B, B_C))
        self.assertEqual(long_row(BOOK, "e", "e"), ())
        self.assertIsNone(long_row(BOOK, "d", "b"))
        self.assertIsNone(long_row(BOOK, "a", "e"))
        self.assertIsNone(long_row(BOOK, "e", "a"))
        self.assertEqual([link[:3] for link in long_row(BOOK, "c", "d")], [("turned", "c", "b"), B_D])
        self.assertIs(right_long(BOOK, "c", "d", long_row(BOOK, "c", "d")), True)

    def test_lots(self):
        self.assertEqual([lot_of(BOOK, kind) for kind in BOOK[0]], [
            ("a", "b", "c", "d"), ("a", "b", "c", "d"), ("a", "b", "c", "d"), ("d",), ("e",)])

    def test_a_ring_through_living_kinds_beside_bare_ones(self):
        doors = (("x", "a", "a", (2, 2), (1, 1)), ("y", "c", "b", (1, 1), (1, 1)))
        book = (("a", "b", "c"), (("a", "b"), ("b", "c")), doors)
        self.assertEqual(living(book), ("b", "c"))
        self.assertEqual(lot_of(book, "c"), ("b", "c"))
        self.assertIsNone(long_row(book, "b", "a"))

    def test_against_a_plain_search(self):
        self.seen = set()
        for book in [BOOK] + random_books(61, 200) + balanced_books(62, 250) + wheel_books(63, 8):
            self.check(book)
        for told in ("rule", "turned", None, (), 1, 2, 3, 4, 5):
            self.assertIn(told, self.seen)

    def test_against_houses_by_numbers(self):
        seen = set()
        for book in random_books(64, 60, kinds=3, rules=3, doors=2, top=2) + balanced_books(65, 40, kinds=4, rules=4, doors=2):
            for low in living(book):
                for high in book[0]:
                    parted = can_part(book, low, high)
                    self.assertEqual(high in lot_of(book, low), not parted, (book, low, high))
                    seen.add(parted)
        self.assertEqual(seen, {True, False})


def can_part(book, low, high):
    """Whether numbers stand for a house with a room of low that isn't of high."""
    for lot in subsets(book[0]):
        if low in lot and high not in lot and all(one not in lot or other in lot for one, other in book[1]):
            strict = [(one, other) for one, other in book[1] if other in lot and one not in lot]
            numbers = {kind: 1 if kind in lot else 0 for kind in book[0]}
            if raised_to_stand(book, numbers, strict, most=300) is not None:
                return True
    return False


if __name__ == "__main__":
    unittest.main()
