"""[8]: plans unfolded to begun houses."""

import random
import unittest
from collections import Counter

from fankinds.bounds import ROOMS
from fankinds.errors import HasRow, TooGreat
from fankinds.houses import is_house
from fankinds.plans import plan_of, right_plan
from fankinds.unfolding import unfolded
from tests.samples import all_tuples, mixed_books, random_books
from tests.test_plans import BOOK, PLAN, changed_plans

ANY = (0, None)
TREE = (("a",), (), (("x", "a", "a", (2, 2), (0, 1)),))
TREE_PLAN = ((("a",), None, (("x", "out", 2, 1),)), (("a",), ("x", "into"), (("x", "out", 2, 1),)))


def plainly_unfolded(plan, deep):
    """Room by room, each with its sort and how far it is away: the house, and how far each room is away."""
    rooms = [(0, 0)]
    ways = []
    at = 0
    while at < len(rooms):
        sort, away = rooms[at]
        for name, side, many, further in plan[sort][2] if away < deep else ():
            for _ in range(many):
                ways.append((name, at, len(rooms)) if side == "out" else (name, len(rooms), at))
                rooms.append((further, away + 1))
                if len(rooms) > 300:
                    return None
        at += 1
    return (tuple(plan[sort][0] for sort, away in rooms), tuple(sorted(ways))), [away for sort, away in rooms]


class Unfolded(unittest.TestCase):
    def check(self, book, plan, deep):
        plain = plainly_unfolded(plan, deep)
        if plain is None:
            self.too_great(book, plan, deep)
            return None
        house, away = plain
        told = unfolded(book, plan, deep)
        self.assertEqual(told, house, (book, plan, deep))
        self.assertTrue(all_tuples(told) and is_house(book, told))
        self.kept(book, told, away, deep)
        self.assertEqual(unfolded(book, plan, deep), told)
        return len(told[0])

    def too_great(self, book, plan, deep):
        with self.assertRaises(TooGreat) as caught:
            unfolded(book, plan, deep)
        self.assertEqual(caught.exception.bound, ROOMS)

    def kept(self, book, house, away, deep):
        """Each room less than so many ways away has all that the book wants of it."""
        rooms, ways = house
        for room, lot in enumerate(rooms):
            self.assertFalse(any(low in lot and high not in lot for low, high in book[1]))
            for name, start, goal, out, into in book[2] if away[room] < deep else ():
                for kind, place, (low, high) in ((start, 1, out), (goal, 2, into)):
                    many = sum(1 for way in ways if way[0] == name and way[place] == room)
                    if kind in lot:
                        self.assertTrue(low <= many and (high is None or many <= high), (book, house, room))
                    else:
                        self.assertEqual(many, 0)

    def test_ordinary(self):
        self.assertEqual(unfolded(BOOK, PLAN, 0), ((("a", "b"),), ()))
        self.assertEqual(unfolded(BOOK, PLAN, 1), ((("a", "b"), ("c",), ("c",)), (("x", 0, 1), ("x", 0, 2))))
        whole = ((("a", "b"), ("c",), ("c",), ("b",), ("b",)), (("x", 0, 1), ("x", 0, 2), ("y", 1, 3), ("y", 2, 4)))
        for deep in range(2, 7):
            self.assertEqual(unfolded(BOOK, PLAN, deep), whole)

    def test_from_the_side_that_the_plan_tells(self):
        book = (("a", "b"), (), (("x", "a", "b", (1, 2), (0, 3)), ("y", "b", "a", ANY, ANY)))
        plan = ((("b",), None, (("x", "into", 2, 1), ("y", "out", 1, 2))), (("a",), ("x", "out"), (("y", "into", 1, 3),)),
                (("a",), ("y", "into"), (("x", "out", 1, 4),)), (("b",), ("y", "out"), ()), (("b",), ("x", "into"), ()))
        self.assertTrue(right_plan(book, "b", "a", plan))
        told = unfolded(book, plan, 2)
        self.assertEqual(told[0], (("b",), ("a",), ("a",), ("a",), ("b",), ("b",), ("b",)))
        self.assertEqual(told[1], (("x", 1, 0), ("x", 2, 0), ("x", 3, 6), ("y", 0, 3), ("y", 4, 1), ("y", 5, 2)))
        for deep in range(7):
            self.check(book, plan, deep)

    def test_each_depth(self):
        for deep in range(7):
            self.assertEqual(self.check(TREE, TREE_PLAN, deep), 2 ** (deep + 1) - 1)

    def test_many_books(self):
        rand = random.Random(401)
        seen = Counter()
        for book in mixed_books(402, 25) + random_books(407, 60, rules=3, doors=2):
            low, high = rand.choice(book[0]), rand.choice(book[0])
            try:
                plan = plan_of(book, low, high)
            except HasRow:
                continue
            for deep in range(7):
                rooms = self.check(book, plan, deep)
                seen[rooms is None, rooms is not None and rooms > 5] += 1
        self.assertGreater(min(seen.values()), 50, seen)

    def test_plans_of_any_make(self):
        rand = random.Random(408)
        seen = 0
        for book in random_books(409, 60, kinds=3, rules=2, doors=3):
            low, high = book[0][0], book[0][-1]
            if any(rule[0] == low for rule in book[1]) or low == high:
                continue
            for plan in changed_plans(rand, book, plan_of(book, low, high)):
                if right_plan(book, low, high, plan):
                    for deep in (0, 1, 2, 3):
                        self.check(book, plan, deep)
                    seen += 1
        self.assertGreater(seen, 60)

    def test_sorts_with_many_of_any_size(self):
        book = (("a", "b"), (), (("x", "a", "b", ANY, (0, 1)), ("y", "b", "b", ANY, ANY)))
        for many in (1, 2, 150, 298, 299, 300, 301, 10 ** 6, 10 ** 29):
            plan = ((("a",), None, (("x", "out", many, 1),)), (("b",), ("x", "into"), ()))
            self.assertTrue(right_plan(book, "a", "b", plan))
            self.assertEqual(self.check(book, plan, 0), 1)
            for deep in (1, 2, 6):
                self.assertEqual(self.check(book, plan, deep), 1 + many if many < 300 else None)
        for one, other in ((100, 199), (100, 200), (299, 1), (10 ** 20, 1), (1, 10 ** 20)):
            plan = ((("a", "b"), None, (("x", "out", one, 1), ("y", "into", other, 2))), (("b",), ("x", "into"), ()), (("b",), ("y", "out"), ()))
            self.assertEqual(self.check(book, plan, 1), 1 + one + other if one + other < 300 else None)

    def test_far_beyond_only_where_it_is_come_to(self):
        book = (("a", "b"), (), (("x", "a", "b", ANY, ANY), ("y", "b", "a", ANY, ANY)))
        plan = ((("a",), None, (("x", "out", 2, 1),)), (("b",), ("x", "into"), (("y", "out", 10 ** 25, 2),)), (("a",), ("y", "into"), ()))
        self.assertEqual(self.check(book, plan, 1), 3)
        self.too_great(book, plan, 2)

    def test_just_as_many_rooms_as_may_be(self):
        book = (("a",), (), (("x", "a", "a", ANY, ANY),))
        for many, deep, rooms in ((13, 2, 183), (16, 2, 273), (17, 2, None)):
            plan = ((("a",), None, (("x", "out", many, 1),)), (("a",), ("x", "into"), (("x", "out", many, 1),)))
            self.assertEqual(self.check(book, plan, deep), rooms)
        plan = ((("a",), None, (("x", "out", 23, 1),)), (("a",), ("x", "into"), (("x", "out", 12, 2),)), (("a",), ("x", "into"), ()))
        self.assertEqual(self.check(book, plan, 2), 300)
        plan = ((("a",), None, (("x", "out", 23, 1),)), (("a",), ("x", "into"), (("x", "into", 1, 3), ("x", "out", 12, 2))),
                (("a",), ("x", "into"), ()), (("a",), ("x", "out"), ()))
        self.too_great(book, plan, 2)


if __name__ == "__main__":
    unittest.main()
