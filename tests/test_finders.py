"""[10]: the two finders."""

import unittest

from fankinds.finders import ByRounds, Finder, Plainly, finder
from fankinds.rings import is_ring, rings_of
from fankinds.steps import steps_of
from tests.samples import (balanced_books, plain_product, plain_rings, plain_steps, random_books, subsets, turns_about,
                           wheel_books)
from tests.test_rings import BOOK, DENSE


class Classes(unittest.TestCase):
    def test_who_is_under_whom(self):
        self.assertTrue(issubclass(Plainly, Finder))
        self.assertTrue(issubclass(ByRounds, Finder))
        self.assertFalse(issubclass(Plainly, ByRounds))
        self.assertFalse(issubclass(ByRounds, Plainly))

    def test_each_has_its_own_methods(self):
        for made in (Finder, Plainly, ByRounds):
            self.assertIn("below", vars(made))
            self.assertIn("even", vars(made))

    def test_finder_tells_a_by_rounds(self):
        for book in (BOOK, DENSE, (("a",), (), ())):
            self.assertIs(finder(book).__class__, ByRounds)

    def test_finder_itself_tells_none(self):
        for book in (BOOK, DENSE):
            plain = Finder(book)
            for lot in subsets(book[0]):
                self.assertIsNone(plain.below(lot))
                for step in range(len(steps_of(book))):
                    self.assertIsNone(plain.even(lot, step))


class Ordinary(unittest.TestCase):
    def test_below(self):
        for make in (Plainly, ByRounds):
            seeker = make(BOOK)
            self.assertEqual(seeker.below(("d",)), (6,))
            self.assertIn(seeker.below(("a", "b", "c")), turns_about((4, 1, 2)))
            self.assertIsNone(seeker.below(("a", "b")))
            self.assertIsNone(seeker.below(()))

    def test_even(self):
        for make in (Plainly, ByRounds):
            seeker = make(BOOK)
            self.assertEqual(seeker.even(("a", "b"), 4), (4, 5))
            self.assertEqual(seeker.even(("a", "b"), 5), (5, 4))
            self.assertIsNone(seeker.even(("a", "b"), 0))
            self.assertIsNone(seeker.even(("a", "b"), 6))
            self.assertIsNone(seeker.even(("a",), 4))
            self.assertIsNone(seeker.even(("b",), 4))
            self.assertIsNone(seeker.even((), 4))

    def test_a_step_from_a_kind_to_itself(self):
        book = (("a",), (), (("x", "a", "a", (1, 1), (1, 1)), ("y", "a", "a", (1, 1), (0, 2))))
        for make in (Plainly, ByRounds):
            seeker = make(book)
            self.assertEqual([seeker.even(("a",), step) for step in range(3)], [(0,), (1,), None])
            self.assertIsNone(seeker.even((), 0))

    def test_without_steps(self):
        for make in (Plainly, ByRounds):
            self.assertIsNone(make((("a", "b"), (), ())).below(("a", "b")))

    def test_a_long_ring(self):
        kinds = tuple("abcdef")
        turn = (("a", "b"), ("b", "c"), ("c", "d"), ("d", "e"), ("e", "f"))
        for top, worth in (((2, 2), "below"), ((1, 1), "even"), ((0, 1), "none")):
            book = (kinds, turn, (("x", "f", "a", top, (0, 1)),))
            for make in (Plainly, ByRounds):
                seeker = make(book)
                if worth == "below":
                    self.assertIn(seeker.below(kinds), turns_about((0, 1, 2, 3, 4, 5)))
                    self.assertIsNone(seeker.below(kinds[1:]))
                    self.assertIsNone(seeker.below(kinds[:3] + kinds[4:]))
                elif worth == "even":
                    self.assertIsNone(seeker.below(kinds))
                    for step in range(6):
                        self.assertEqual(seeker.even(kinds, step), turns_about((0, 1, 2, 3, 4, 5))[step])
                        self.assertIsNone(seeker.even(kinds[1:], step))
                else:
                    self.assertIsNone(seeker.below(kinds))
                    for step in range(5):
                        self.assertIsNone(seeker.even(kinds, step))


class AgainstAPlainSearch(unittest.TestCase):
    def check(self, book):
        rings = plain_rings(book)
        steps = plain_steps(book)
        for make in (Plainly, ByRounds):
            seeker = make(book)
            for lot in subsets(book[0]):
                inside = [ring for ring in rings if all(steps[at][0] in lot for at in ring)]
                if self.check_below(book, seeker, lot, [ring for ring in inside if rings[ring] < 1]) is None:
                    even = {at for ring in inside if rings[ring] == 1 for at in ring}
                    for step in range(len(steps)):
                        self.check_even(book, seeker, lot, step, step in even)

    def check_below(self, book, seeker, lot, rings):
        self.seen.add(("below", bool(rings)))
        told = seeker.below(lot)
        self.assertEqual(told is not None, bool(rings), (book, lot))
        if told is not None:
            self.assertIs(is_ring(book, told), True)
            self.assertIn(told, {turned for ring in rings for turned in turns_about(ring)})
        return told

    def check_even(self, book, seeker, lot, step, there_is):
        self.seen.add(("even", there_is))
        told = seeker.even(lot, step)
        self.assertEqual(told is not None, there_is, (book, lot, step))
        if told is not None:
            self.assertIs(is_ring(book, told), True)
            self.assertEqual(told[0], step)
            steps = plain_steps(book)
            self.assertEqual(plain_product(steps, told), 1)
            self.assertTrue(all(steps[at][0] in lot for at in told))

    def test_all_lots_and_steps(self):
        self.seen = set()
        books = [BOOK, DENSE] + random_books(41, 150) + random_books(42, 600, kinds=4, rules=4, doors=4, top=2)
        for book in books + random_books(43, 200, kinds=5, rules=5, doors=5) + balanced_books(44, 150) + wheel_books(45, 12):
            self.check(book)
        self.assertEqual(len(self.seen), 4)

    def test_there_are_rings_enough(self):
        self.assertGreater(len(rings_of(DENSE)), 50)
        books = balanced_books(44, 150) + wheel_books(45, 12)
        lengths = [len(ring) for book in books for ring, worth in plain_rings(book).items() if worth == 1]
        self.assertEqual(sorted(set(lengths)), [1, 2, 3, 4, 5, 6])


if __name__ == "__main__":
    unittest.main()
