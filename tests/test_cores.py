"""[19]: cores of answers."""

import itertools
import random
import unittest
from collections import Counter

from fankinds.books import is_book
from fankinds.cores import core, right_core
from fankinds.errors import NoCore
from tests.plain import PlainBook
from tests.samples import (all_tuples, as_lists, balanced_books, nested, odd_things, of_other_make, random_books, turning_books,
                           wheel_books)

ANY = (0, None)
# b is turned into a by x or by w; d is bare by y.
BOOK = (
    ("a", "b", "c", "d"),
    (("a", "b"), ("a", "c"), ("b", "c")),
    (("w", "b", "a", (2, 2), (1, 2)), ("x", "b", "a", (1, 1), (0, 1)), ("y", "d", "d", (2, 2), (1, 1)), ("z", "d", "c", ANY, ANY)),
)
RULES, DOORS = BOOK[1], BOOK[2]
TURNED = (BOOK[0], RULES[:1], DOORS[1:2])


def less(book):
    """The books with one rule or one door less."""
    rules = [(book[0], book[1][:at] + book[1][at + 1:], book[2]) for at in range(len(book[1]))]
    return rules + [(book[0], book[1], book[2][:at] + book[2][at + 1:]) for at in range(len(book[2]))]


def plainly_core(book, low, high, thing):
    """[19] told once more, of a book."""
    word = PlainBook(book).word(low, high)
    if word == "not" or thing[0] != book[0] or not set(thing[1]) <= set(book[1]) or not set(thing[2]) <= set(book[2]):
        return False
    return PlainBook(thing).word(low, high) == word and all(PlainBook(other).word(low, high) != word for other in less(thing))


class Core(unittest.TestCase):
    def check(self, book, low, high):
        word = PlainBook(book).word(low, high)
        self.seen[word] += 1
        if word == "not":
            self.assertRaises(NoCore, core, book, low, high)
            self.assertIs(right_core(book, low, high, book), False)
            return
        told = core(book, low, high)
        self.assertTrue(is_book(told) and all_tuples(told))
        self.assertTrue(plainly_core(book, low, high, told), (book, low, high))
        self.assertIs(right_core(book, low, high, told), True)
        self.assertIs(right_core(book, low, high, book), told == book)
        self.assertEqual(core(told, low, high), told)
        self.assertIs(right_core(told, low, high, told), True)
        self.assertEqual(core(book, low, high), told)
        if word == "ever":
            self.one_row(told, low, high)

    def one_row(self, told, low, high):
        """The rules are those of one row, and there are no doors."""
        self.assertEqual(told[2], ())
        here, left = low, dict(told[1])
        self.assertEqual(len(left), len(told[1]))
        while left:
            here = left.pop(here)
        self.assertEqual(here, high)

    def setUp(self):
        self.seen = Counter()

    def test_ordinary(self):
        self.assertIn(core(BOOK, "b", "a"), (TURNED, (BOOK[0], RULES[:1], DOORS[:1])))
        self.assertEqual(core(BOOK, "d", "a"), (BOOK[0], (), DOORS[2:3]))
        self.assertIn(core(BOOK, "a", "c"), ((BOOK[0], RULES[1:2], ()), (BOOK[0], (RULES[0], RULES[2]), ())))
        self.assertEqual(core(BOOK, "a", "a"), (BOOK[0], (), ()))
        self.assertRaises(NoCore, core, BOOK, "c", "a")
        for low, high in itertools.product(BOOK[0], repeat=2):
            self.check(BOOK, low, high)

    def test_one_kind_and_itself(self):
        for book in random_books(431, 20):
            for kind in book[0]:
                self.assertEqual(core(book, kind, kind), (book[0], (), ()))

    def test_many_books(self):
        rand = random.Random(432)
        for book in random_books(433, 60) + random_books(434, 60, rules=3, doors=6) + balanced_books(435, 40) + turning_books(436, 90):
            pairs = list(itertools.product(book[0], repeat=2))
            for low, high in rand.sample(pairs, min(6, len(pairs))):
                self.check(book, low, high)
        self.assertGreater(min(self.seen.values()), 60, self.seen)

    def test_full_books(self):
        for book in wheel_books(437, 3):
            for high in "bdf":
                self.check(book, "a", high)


class RightCore(unittest.TestCase):
    def yes(self, low, high, rules, doors):
        self.assertIs(right_core(BOOK, low, high, (BOOK[0], rules, doors)), True)

    def no(self, low, high, thing):
        self.assertIs(right_core(BOOK, low, high, thing), False, repr(thing)[:200])

    def test_all_parts_of_a_book(self):
        parts = [[part for many in range(len(all_of) + 1) for part in itertools.combinations(all_of, many)] for all_of in (RULES, DOORS)]
        for low, high in (("b", "a"), ("a", "c"), ("d", "b"), ("c", "a"), ("a", "a"), ("b", "c")):
            found = 0
            for rules, doors in itertools.product(*parts):
                thing = (BOOK[0], rules, doors)
                told = right_core(BOOK, low, high, thing)
                self.assertIs(told, plainly_core(BOOK, low, high, thing), (low, high, thing))
                found += told
            self.assertEqual(found, {"ba": 2, "ac": 2, "db": 1, "ca": 0, "aa": 1, "bc": 1}[low + high])

    def test_a_rule_or_a_door_more_less_or_another(self):
        self.yes("b", "a", RULES[:1], DOORS[1:2])
        self.yes("b", "a", RULES[:1], DOORS[:1])
        self.no("b", "a", (BOOK[0], RULES[:1], DOORS[:2]))
        self.no("b", "a", (BOOK[0], RULES[:2], DOORS[1:2]))
        self.no("b", "a", (BOOK[0], (), DOORS[1:2]))
        self.no("b", "a", (BOOK[0], RULES[:1], ()))
        self.no("b", "a", (BOOK[0], RULES[1:2], DOORS[1:2]))
        self.no("b", "a", (BOOK[0], RULES[:1], DOORS[2:3]))
        self.no("b", "a", (BOOK[0], (("b", "a"),), ()))
        self.no("b", "a", BOOK)

    def test_other_fans_kinds_names(self):
        for fans in (((1, 1), (1, 1)), ((1, 2), (0, 1)), ((2, 2), (0, 2)), ((1, None), (0, 1)), ((True, 1), (0, 1)), ((1, 1), (False, True))):
            self.no("b", "a", (BOOK[0], RULES[:1], (("x", "b", "a") + fans,)))
        self.no("b", "a", (BOOK[0], RULES[:1], (("v", "b", "a", (1, 1), (0, 1)),)))
        self.no("b", "a", (BOOK[0], RULES[:1], (("x", "a", "b", (0, 1), (1, 1)),)))
        for kinds in (("a", "b"), ("a", "b", "c"), ("a", "b", "c", "d", "e"), ("a", "b", "c", "e"), ["a", "b", "c", "d"], ()):
            self.no("b", "a", (kinds,) + TURNED[1:])

    def test_of_other_kinds(self):
        for low, high in itertools.product(BOOK[0], repeat=2):
            self.assertIs(right_core(BOOK, low, high, TURNED), (low, high) == ("b", "a"))

    def test_where_the_word_is_not(self):
        for low, high in itertools.permutations(BOOK[0], 2):
            if PlainBook(BOOK).word(low, high) == "not":
                for thing in (BOOK, TURNED, (BOOK[0], (), ())) + tuple(less(BOOK)):
                    self.no(low, high, thing)

    def test_odd_things(self):
        for thing in odd_things():
            self.no("b", "a", thing)
            for at in range(3):
                if thing != TURNED[at]:
                    self.no("b", "a", TURNED[:at] + (thing,) + TURNED[at + 1:])
        self.no("b", "a", nested(lambda thing: (thing, thing, thing), 7))
        for thing in (TURNED[:2], TURNED + ((),), (TURNED,), TURNED[::-1], list(TURNED), (TURNED[0] * 2000, (), ())):
            self.no("b", "a", thing)

    def test_odd_parts_at_any_depth(self):
        for path, changed in of_other_make(TURNED):
            self.no("b", "a", changed)
        for changed in as_lists(TURNED):
            self.no("b", "a", changed)

    def test_parts_drawn_by_chance(self):
        rand = random.Random(438)
        seen = Counter()
        for book in turning_books(439, 60) + random_books(440, 60, rules=4, doors=3):
            for low, high in itertools.permutations(book[0], 2):
                rules = tuple(rule for rule in book[1] if rand.random() < 0.4)
                doors = tuple(door for door in book[2] if rand.random() < 0.4)
                if rand.random() < 0.3 and PlainBook(book).word(low, high) != "not":
                    rules, doors = core(book, low, high)[1:]
                    rules = rules[1:] if rand.random() < 0.2 else rules
                thing = (book[0], rules, doors)
                told = right_core(book, low, high, thing)
                self.assertIs(told, plainly_core(book, low, high, thing))
                seen[told] += 1
        self.assertGreater(min(seen.values()), 40, seen)


if __name__ == "__main__":
    unittest.main()
