"""[5]: books and their fans."""

import itertools
import unittest

from fankinds.books import fan_of, is_book
from tests.samples import as_lists, odd_things, of_other_make, random_books, replaced

ANY = (0, None)
SIX = ("a", "b", "c", "d", "e", "f")
SMALL = (("a", "b"), (("a", "b"),), (("x", "a", "b", (1, 2), (0, None)),))
FULL = (
    SIX,
    (("a", "b"), ("a", "c"), ("a", "d"), ("a", "e"), ("a", "f"), ("b", "a"), ("b", "c"), ("b", "d"), ("b", "e"), ("f", "e")),
    (
        ("a", "a", "b", (0, 1), (4, 4)), ("aa", "b", "a", (4, None), (0, 4)), ("b", "c", "c", (1, 1), (2, 3)),
        ("door", "f", "f", (0, None), (0, None)), ("zz", "e", "f", (1, 4), (3, 3)), ("zzzzzzzz", "a", "f", (2, 2), (0, 2)),
    ),
)


def with_rules(*rules):
    return (SIX, rules, ())


def with_doors(*doors):
    return (SIX, (), doors)


class IsBook(unittest.TestCase):
    def yes(self, thing):
        self.assertIs(is_book(thing), True, thing)

    def no(self, thing):
        self.assertIs(is_book(thing), False, repr(thing)[:200])

    def test_ordinary(self):
        for book in (SMALL, FULL, (("a",), (), ()), (("hall", "room"), (), ())):
            self.yes(book)
        for book in random_books(5, 300):
            self.yes(book)

    def test_kinds_at_their_bound(self):
        for many in range(10):
            self.assertIs(is_book((tuple("abcdefghij"[:many]), (), ())), 1 <= many <= 6)

    def test_kinds_rise(self):
        for kinds in itertools.product(("a", "b", "ba", "c"), repeat=3):
            with self.subTest(kinds=kinds):
                self.assertIs(is_book((kinds, (), ())), kinds[0] < kinds[1] < kinds[2])

    def test_kinds_are_names(self):
        for name in ("", "A", "a1", "a b", "abcdefghi", "a_", "a\n", "1", None, True, 0, ("a",), ["a"], {}):
            self.no(((name,), (), ()))
        self.yes((("abcdefgh",), (), ()))
        self.no((("a", "B"), (), ()))
        self.no((("a", 1), (), ()))

    def test_rules_at_their_bound(self):
        pairs = list(itertools.permutations(SIX, 2))
        for many in range(13):
            self.assertIs(is_book((SIX, tuple(pairs[:many]), ())), many <= 10)

    def test_rules_of_unlike_kinds_of_the_book(self):
        names = ("a", "b", "c", "d", "q")
        for rule in itertools.product(names, repeat=2):
            with self.subTest(rule=rule):
                book = (("a", "b", "c", "d"), (rule,), ())
                self.assertIs(is_book(book), "q" not in rule and rule[0] != rule[1])

    def test_rules_rise(self):
        self.yes(with_rules(("a", "b"), ("a", "c"), ("b", "a")))
        self.no(with_rules(("a", "b"), ("a", "b")))
        self.no(with_rules(("a", "c"), ("a", "b")))
        self.no(with_rules(("b", "a"), ("a", "c")))
        self.no(with_rules(("a", "b"), ("c", "d"), ("b", "d")))
        self.yes(with_rules(("a", "b"), ("b", "c"), ("c", "a")))

    def test_rules_of_other_makes(self):
        for rule in ((), ("a",), ("a", "b", "c"), ["a", "b"], "ab", "a", None, True, 1, {"a": "b"}, ("a", None), (None, "a"),
                     ("a", ("b",)), (["a"], "b"), ("a", True), (0, 1), ("a", {})):
            self.no(with_rules(rule))
            self.no(with_rules(("a", "b"), rule))
        self.no((SIX, [], ()))
        self.no((SIX, [("a", "b")], ()))
        self.no((SIX, ("a", "b"), ()))

    def test_doors_at_their_bound(self):
        doors = [(name, "a", "b", ANY, ANY) for name in "stuvwxyz"]
        for many in range(9):
            self.assertIs(is_book((SIX, (), tuple(doors[:many]))), many <= 6)

    def test_doors_rise_by_their_names(self):
        for names in itertools.product(("x", "xy", "y"), repeat=2):
            with self.subTest(names=names):
                doors = [(name, "a", "b", ANY, ANY) for name in names]
                self.assertIs(is_book(with_doors(*doors)), names[0] < names[1])
        same = [("x", "a", "b", ANY, ANY), ("x", "b", "c", (1, 1), ANY)]
        self.no(with_doors(*same))
        self.no(with_doors(("x", "a", "a", ANY, ANY), ("y", "a", "a", ANY, ANY), ("w", "a", "a", ANY, ANY)))
        self.yes(with_doors(("x", "b", "b", (4, 4), ANY), ("y", "a", "a", (0, 1), ANY)))

    def test_doors_names(self):
        for name in ("", "X", "x1", "abcdefghi", "x y", None, True, 0, ("x",), ["x"], {}):
            self.no(with_doors((name, "a", "b", ANY, ANY)))
        self.yes(with_doors(("abcdefgh", "a", "b", ANY, ANY)))

    def test_a_door_called_like_a_kind(self):
        for name in SIX:
            self.yes(with_doors((name, "a", "b", ANY, ANY)))

    def test_a_door_from_a_kind_to_itself(self):
        for kind in SIX:
            self.yes(with_doors(("x", kind, kind, ANY, ANY)))

    def test_ends_are_kinds(self):
        for end in ("q", "x", "", "A", None, True, 0, ("a",), ["a"], {}):
            self.no(with_doors(("x", end, "b", ANY, ANY)))
            self.no(with_doors(("x", "a", end, ANY, ANY)))

    def test_fans_are_fans(self):
        for fan in ((0, 0), (2, 1), (5, 5), (5, None), (-1, 1), (0, 5), (True, 1), (0, True), (False, None), [0, 1], (0,),
                    (0, 1, 2), (), None, "0-1", 1, True, {}, (None, None), ("a", "b")):
            self.no(with_doors(("x", "a", "b", fan, ANY)))
            self.no(with_doors(("x", "a", "b", ANY, fan)))

    def test_doors_of_other_makes(self):
        door = ("x", "a", "b", ANY, ANY)
        for thing in (door[:4], door + (ANY,), list(door), (), "x", None, True, 1, {"x": door}, (door,), ("x", "a", "b") + ANY):
            self.no(with_doors(thing))
            self.no(with_doors(("w", "a", "b", ANY, ANY), thing))
        self.no((SIX, (), [door]))
        self.no((SIX, (), door))

    def test_other_lengths(self):
        self.no(())
        self.no((SIX,))
        self.no((SIX, ()))
        self.no((SIX, (), (), ()))
        self.no(SMALL + (None,))
        self.no(((), (), ()))

    def test_odd_things(self):
        for thing in odd_things():
            self.no(thing)
            self.assertIs(is_book((thing, (), ())), thing in (("a",), ("a", "b")))
            self.assertIs(is_book((SIX, thing, ())), thing == ())
            self.assertIs(is_book((SIX, (), thing)), thing == ())

    def test_odd_parts_at_any_depth(self):
        highs = [(2, 0, 3, 1), (2, 0, 4, 1)]
        for path, changed in of_other_make(SMALL):
            lets = path in highs and changed[2][0][path[2]] in ((1, None), (1, 1), (1, 2), (0, 1), (0, 2))
            truth = path in highs and changed[2][0][path[2]][1] is True
            self.assertIs(is_book(changed), lets and not truth, (path, repr(changed)[:200]))
        for changed in as_lists(FULL):
            self.no(changed)

    def test_texts_in_the_place_of_texts(self):
        for path in ((0, 0), (0, 1), (1, 0, 0), (1, 0, 1), (2, 0, 1), (2, 0, 2)):
            self.no(replaced(SMALL, path, "q"))
        self.no(replaced(SMALL, (0, 0), "b"))
        self.no(replaced(SMALL, (1, 0, 0), "b"))
        self.yes(replaced(SMALL, (2, 0, 1), "b"))

    def test_deep_and_wide(self):
        self.no(("a",) * 40000)
        self.no((("a",), (("a", "b"),) * 13000, ()))
        self.no(((),) * 39999)


class FanOf(unittest.TestCase):
    def test_each_door_and_side(self):
        for book in [SMALL, FULL] + random_books(6, 50):
            for name, start, goal, out, into in book[2]:
                self.assertEqual(fan_of(book, name, "out"), out)
                self.assertEqual(fan_of(book, name, "into"), into)

    def test_by_name(self):
        self.assertEqual(fan_of(FULL, "aa", "out"), (4, None))
        self.assertEqual(fan_of(FULL, "aa", "into"), (0, 4))
        self.assertEqual(fan_of(FULL, "zzzzzzzz", "into"), (0, 2))


if __name__ == "__main__":
    unittest.main()
