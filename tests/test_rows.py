"""[7]: rows of rules."""

import itertools
import random
import unittest

from fankinds.books import is_book
from fankinds.rows import above, is_row, row_to
from tests.samples import as_lists, nested, odd_things, of_other_make, random_books, wheel_books

ANY = (0, None)
# Rules that lead round: a b c d a, and from b to e.
BOOK = (
    ("a", "b", "c", "d", "e", "f"),
    (("a", "b"), ("b", "c"), ("b", "e"), ("c", "d"), ("d", "a")),
    (("x", "a", "f", (1, 1), (1, 1)), ("y", "f", "a", ANY, ANY)),
)


def plain_rows(book, low, high):
    """All rows without a kind twice, by going through all orders of kinds."""
    between = [kind for kind in book[0] if kind not in (low, high)]
    rows = []
    for many in range(len(between) + 1):
        for order in itertools.permutations(between, many):
            row = (low,) + order + (high,)
            if all(pair in book[1] for pair in zip(row, row[1:])):
                rows.append(row)
    return [(low,)] if low == high else rows


class IsRow(unittest.TestCase):
    def yes(self, low, high, *row):
        self.assertIs(is_row(BOOK, low, high, row), True, row)

    def no(self, low, high, *row):
        self.assertIs(is_row(BOOK, low, high, row), False, repr(row)[:200])

    def test_right_rows(self):
        self.yes("a", "b", "a", "b")
        self.yes("a", "e", "a", "b", "e")
        self.yes("c", "e", "c", "d", "a", "b", "e")

    def test_from_a_kind_to_itself(self):
        for low in BOOK[0]:
            for high in BOOK[0]:
                self.assertIs(is_row(BOOK, low, high, (low,)), low == high)
        self.yes("a", "a", "a", "b", "c", "d", "a")
        self.no("a", "a", "a", "a")

    def test_round_and_round(self):
        self.yes("a", "e", *("abcd" * 5 + "abe"))
        self.yes("a", "a", *("abcd" * 2000 + "a"))
        self.no("a", "a", *("abcd" * 2000 + "ba"))

    def test_a_kind_out_in_exchanged_or_twice(self):
        row = ("c", "d", "a", "b", "e")
        for at in range(len(row)):
            self.no("c", "e", *(row[:at] + row[at + 1:]))
            self.no("c", "e", *(row[:at + 1] + row[at:]))
            for kind in BOOK[0]:
                self.no("c", "e", *(row[:at] + (kind,) + row[at:]))
                if kind != row[at]:
                    self.no("c", "e", *(row[:at] + (kind,) + row[at + 1:]))
        for order in itertools.permutations(row):
            self.assertIs(is_row(BOOK, "c", "e", order), order == row)

    def test_backwards(self):
        for row in (("a", "b"), ("a", "b", "e"), ("c", "d", "a", "b", "e")):
            self.yes(row[0], row[-1], *row)
            self.no(row[-1], row[0], *row[::-1])
            self.no(row[0], row[-1], *row[::-1])

    def test_other_ends(self):
        for low, high in itertools.product(BOOK[0], repeat=2):
            self.assertIs(is_row(BOOK, low, high, ("a", "b", "e")), (low, high) == ("a", "e"))
            self.assertIs(is_row(BOOK, low, high, ()), False)

    def test_doors_are_no_rules(self):
        self.no("a", "f", "a", "f")
        self.no("f", "a", "f", "a")

    def test_kinds_that_are_not_there(self):
        self.no("g", "g", "g")
        self.no("a", "g", "a", "g")
        self.no("x", "x", "x")

    def test_other_things_of_a_row(self):
        self.no("a", "b", ("a", "b"))
        self.no("a", "b", "ab")
        self.assertIs(is_row(BOOK, "a", "b", "ab"), False)
        self.assertIs(is_row(BOOK, "a", "a", "a"), False)
        self.assertIs(is_row(BOOK, "a", "b", ["a", "b"]), False)
        self.assertIs(is_row(BOOK, "a", "b", {"a": "b", "b": "a"}), False)
        self.assertIs(is_row(BOOK, "a", "b", (("a", "b"), ("b", "c"))), False)

    def test_odd_things(self):
        for thing in odd_things():
            self.assertIs(is_row(BOOK, "a", "b", thing), thing == ("a", "b"), repr(thing)[:60])
            self.assertIs(is_row(BOOK, "a", "a", thing), thing == ("a",), repr(thing)[:60])
            self.no("a", "b", thing)
            if thing != "a":
                self.no("a", "b", thing, "b")
            if thing != "b":
                self.no("a", "b", "a", thing)
            self.no("a", "b", "a", thing, "b")

    def test_odd_parts_at_any_depth(self):
        row = ("c", "d", "a", "b", "e")
        for path, changed in of_other_make(row):
            self.assertIs(is_row(BOOK, "c", "e", changed), False)
        for changed in as_lists(row):
            self.assertIs(is_row(BOOK, "c", "e", changed), False)
        self.assertIs(is_row(BOOK, "a", "a", nested(lambda thing: (thing,), 40)), False)

    def test_rows_drawn_by_chance(self):
        rand = random.Random(81)
        seen = set()
        for book in random_books(82, 150) + wheel_books(83, 20):
            for _ in range(20):
                row = tuple(rand.choice(book[0]) for _ in range(rand.randint(1, 3)))
                told = is_row(book, row[0], row[-1], row)
                self.assertIs(told, all(pair in book[1] for pair in zip(row, row[1:])))
                seen.add((told, len(row)))
        self.assertEqual(len(seen), 5)


class RowTo(unittest.TestCase):
    def test_ordinary(self):
        self.assertEqual(row_to(BOOK, "a", "b"), ("a", "b"))
        self.assertEqual(row_to(BOOK, "c", "e"), ("c", "d", "a", "b", "e"))
        self.assertEqual(row_to(BOOK, "b", "a"), ("b", "c", "d", "a"))
        self.assertIsNone(row_to(BOOK, "e", "a"))
        self.assertIsNone(row_to(BOOK, "a", "f"))
        self.assertIsNone(row_to(BOOK, "f", "a"))

    def test_the_first_of_fewest(self):
        rules = (("a", "b"), ("a", "c"), ("a", "d"), ("b", "e"), ("c", "e"), ("d", "e"), ("e", "f"))
        book = (("a", "b", "c", "d", "e", "f"), rules, ())
        self.assertEqual(row_to(book, "a", "e"), ("a", "b", "e"))
        self.assertEqual(row_to(book, "a", "f"), ("a", "b", "e", "f"))
        self.assertEqual(row_to((book[0], rules[1:], ()), "a", "f"), ("a", "c", "e", "f"))
        # The first one isn't that of the first kinds alone: it is of the fewest.
        longer = (("a", "b"), ("a", "f"), ("b", "c"), ("c", "d"), ("d", "e"), ("f", "d"), ("f", "e"))
        self.assertEqual(row_to((book[0], longer, ()), "a", "e"), ("a", "f", "e"))

    def test_from_a_kind_to_itself(self):
        for book in [BOOK] + random_books(84, 20):
            for kind in book[0]:
                self.assertEqual(row_to(book, kind, kind), (kind,))

    def test_against_a_plain_search(self):
        seen = set()
        full = [book for book in random_books(85, 600) if len(book[1]) == 10]
        self.assertGreater(len(full), 20)
        for book in [BOOK] + full + random_books(86, 150) + wheel_books(87, 20):
            for low, high in itertools.product(book[0], repeat=2):
                rows = plain_rows(book, low, high)
                row = row_to(book, low, high)
                self.assertEqual(row, min(rows, key=lambda row: (len(row), row)) if rows else None, (book, low, high))
                self.assertIs(row is not None and is_row(book, low, high, row), bool(rows))
                seen.add((row and len(row), len([other for other in rows if len(other) == len(row)]) > 1))
        self.assertLess({(None, False), (1, False), (2, False), (3, False), (3, True), (4, True), (6, False)}, seen)

    def test_full_books(self):
        for book in wheel_books(88, 5):
            self.assertTrue(is_book(book))
            self.assertEqual((len(book[0]), len(book[2])), (6, 6))


class Above(unittest.TestCase):
    def test_ordinary(self):
        self.assertEqual(above(BOOK, "a"), ("a", "b", "c", "d", "e"))
        self.assertEqual(above(BOOK, "e"), ("e",))
        self.assertEqual(above(BOOK, "f"), ("f",))
        self.assertEqual(above((("a", "b", "c"), (("c", "a"),), ()), "c"), ("a", "c"))

    def test_against_a_plain_search(self):
        for book in [BOOK] + random_books(89, 150) + wheel_books(90, 20):
            for kind in book[0]:
                self.assertEqual(above(book, kind), tuple(high for high in book[0] if plain_rows(book, kind, high)))


if __name__ == "__main__":
    unittest.main()
