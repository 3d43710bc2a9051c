"""[6]: houses, what is wrong in them, how many rooms are of each kind."""

import itertools
import random
import unittest

from fankinds.houses import counts, is_house, wrong_in
from tests.samples import as_lists, odd_things, of_other_make, random_books, replaced

BOOK = (
    ("a", "b", "c"),
    (("a", "b"), ("b", "c")),
    (("x", "a", "c", (1, 2), (0, 3)), ("y", "c", "c", (0, None), (0, 1))),
)
ALL = ("a", "b", "c")
HOUSE = ((ALL, ("c",), ("b", "c")), (("x", 0, 1), ("x", 0, 2), ("y", 1, 1)))


class IsHouse(unittest.TestCase):
    def yes(self, thing):
        self.assertIs(is_house(BOOK, thing), True, repr(thing)[:200])

    def no(self, thing):
        self.assertIs(is_house(BOOK, thing), False, repr(thing)[:200])

    def test_ordinary(self):
        self.yes(HOUSE)
        self.yes(((("a",),), ()))
        self.yes(((("a",), ("a",)), ()))

    def test_without_rooms(self):
        self.yes(((), ()))
        self.no(((), (("x", 0, 0),)))

    def test_rooms_at_their_bound(self):
        for many, is_one in ((299, True), (300, True), (301, False), (302, False), (600, False)):
            self.assertIs(is_house(BOOK, ((("c",),) * many, ())), is_one)
        self.yes(((("c",),) * 300, (("y", 299, 299),)))
        self.no(((("c",),) * 300, (("y", 299, 300),)))

    def test_lots(self):
        for lot in ((), ("b", "a"), ("a", "a"), ("d",), ("a", "d"), ["a"], "a", "abc", None, True, 0, {"a": 1}, ("x",), ("A",),
                    (("a",),), ("a", None), ("a", 1)):
            self.no(((lot,), ()))
            self.no(((("a",), lot), ()))
            self.no(((lot, ("a",)), ()))

    def test_begun_ones_need_not_be_of_the_book(self):
        self.yes(((("a",), ("a", "c")), (("x", 0, 0), ("x", 1, 0), ("y", 0, 1))))

    def test_a_way_from_a_room_to_itself(self):
        self.yes(((("a",),), (("x", 0, 0),)))

    def test_ways_rise(self):
        rooms = (("a",),) * 3
        ways = [("x", 0, 1), ("x", 0, 2), ("x", 1, 0), ("y", 0, 0)]
        for order in itertools.product(ways, repeat=3):
            self.assertIs(is_house(BOOK, (rooms, order)), order[0] < order[1] < order[2])
        self.no((rooms, (("x", 1, 1), ("x", 1, 1))))
        self.no((rooms, (("y", 0, 0), ("x", 0, 0))))

    def test_doors_of_the_book(self):
        for name in ("z", "a", "", "X", "xy", None, True, 0, ("x",), ["x"], {}):
            self.no((HOUSE[0], ((name, 0, 1),)))

    def test_rooms_numbers(self):
        rooms = (("a",), ("b",))
        for one in (-1, -2, 0, 1, 2, 3, 10 ** 29, True, False, None, "0", (0,), [0], {}):
            is_one = one.__class__ is int and 0 <= one < 2
            self.assertIs(is_house(BOOK, (rooms, (("x", one, 0),))), is_one)
            self.assertIs(is_house(BOOK, (rooms, (("x", 0, one),))), is_one)

    def test_ways_of_other_makes(self):
        for way in ((), ("x",), ("x", 0), ("x", 0, 0, 0), ["x", 0, 0], "x00", "x", None, True, 0, {"x": 0}, (("x", 0, 0),), (0, 0, "x")):
            self.no((HOUSE[0], (way,)))
            self.no((HOUSE[0], (("x", 0, 0), way)))
        self.no((HOUSE[0], [("x", 0, 0)]))
        self.no((HOUSE[0], ("x", 0, 0)))

    def test_other_lengths(self):
        for thing in ((), ((),), ((), (), ()), HOUSE + ((),), HOUSE[:1], list(HOUSE), {0: HOUSE}):
            self.no(thing)

    def test_odd_things(self):
        for thing in odd_things():
            self.no(thing)
            self.assertIs(is_house(BOOK, (thing, ())), thing == ())
            self.assertIs(is_house(BOOK, (HOUSE[0], thing)), thing == ())

    def test_odd_parts_at_any_depth(self):
        for path, changed in of_other_make(HOUSE):
            self.no(changed)
        for changed in as_lists(HOUSE):
            self.no(changed)
        for path in ((1, 0, 1), (1, 0, 2), (1, 2, 1), (1, 2, 2)):
            self.no(replaced(HOUSE, path, 3))
            self.no(replaced(HOUSE, path, -1))

    def test_deep_and_wide(self):
        self.no((("c",),) * 20000)
        self.no(((("c",),) * 10, (("y", 0, 0),) * 9000))
        rooms = (("c",),) * 300
        ways = tuple(("y", one, other) for one in range(30) for other in range(300))
        self.yes((rooms, ways))


def fan_book(out, into):
    return (("a", "b"), (), (("x", "a", "b", out, into),))


class WrongIn(unittest.TestCase):
    def test_houses_of_the_book(self):
        self.assertIsNone(wrong_in(BOOK, HOUSE))
        self.assertIsNone(wrong_in(BOOK, ((), ())))
        self.assertIsNone(wrong_in(BOOK, ((("c",), ("b", "c")), ())))
        self.assertIsNone(wrong_in(BOOK, ((ALL,), (("x", 0, 0), ("y", 0, 0)))))

    def test_rules(self):
        self.assertEqual(wrong_in(BOOK, ((("a", "c"),), ())), ("rule", "a", "b", 0))
        self.assertEqual(wrong_in(BOOK, ((("b",),), ())), ("rule", "b", "c", 0))
        self.assertEqual(wrong_in(BOOK, ((("c",), ("a",), ("a",)), ())), ("rule", "a", "b", 1))

    def test_rules_come_in_order_ahead_of_rooms(self):
        self.assertEqual(wrong_in(BOOK, ((("b",), ("c",), ("a",)), ())), ("rule", "a", "b", 2))
        self.assertEqual(wrong_in(BOOK, ((("c",), ("a", "b"), ("b",)), ())), ("rule", "b", "c", 1))

    def test_rules_ahead_of_ends(self):
        house = ((("c",), ("c",), ("b",)), (("x", 0, 1),))
        self.assertEqual(wrong_in(BOOK, house), ("rule", "b", "c", 2))

    def test_ends(self):
        rooms = (ALL, ("c",), ("c",))
        self.assertEqual(wrong_in(BOOK, (rooms, (("x", 1, 0),))), ("ends", "x", 1, 0))
        self.assertEqual(wrong_in(BOOK, (rooms, (("x", 0, 1), ("x", 1, 2), ("x", 2, 1)))), ("ends", "x", 1, 2))
        book = fan_book((0, None), (0, None))
        self.assertEqual(wrong_in(book, ((("a",), ("b",)), (("x", 0, 0), ("x", 0, 1)))), ("ends", "x", 0, 0))
        self.assertEqual(wrong_in(book, ((("a",), ("b",)), (("x", 0, 1), ("x", 1, 1)))), ("ends", "x", 1, 1))
        self.assertEqual(wrong_in(book, ((("a",), ("b",)), (("x", 1, 0),))), ("ends", "x", 1, 0))
        self.assertIsNone(wrong_in(book, ((("a",), ("b",)), (("x", 0, 1),))))

    def test_ends_ahead_of_fans(self):
        rooms = (ALL, ("c",), ("c",))
        self.assertEqual(wrong_in(BOOK, (rooms, (("x", 2, 1),))), ("ends", "x", 2, 1))
        book = (("a", "b"), (), (("x", "a", "b", (2, 2), (0, 1)), ("y", "b", "a", (0, 1), (0, 1))))
        house = ((("a",), ("b",)), (("y", 0, 1),))
        self.assertEqual(wrong_in(book, house), ("ends", "y", 0, 1))

    def test_too_few_and_too_many_out(self):
        rooms = (ALL, ("c",), ("c",), ("c",))
        self.assertEqual(wrong_in(BOOK, (rooms, ())), ("out", "x", 0, 0))
        ways = (("x", 0, 0), ("x", 0, 1), ("x", 0, 2))
        self.assertEqual(wrong_in(BOOK, (rooms, ways)), ("out", "x", 0, 3))
        self.assertIsNone(wrong_in(BOOK, (rooms, ways[:2])))

    def test_the_least_room_out(self):
        rooms = (ALL, ALL, ALL, ("c",))
        self.assertEqual(wrong_in(BOOK, (rooms, (("x", 0, 3), ("x", 2, 3)))), ("out", "x", 1, 0))
        ways = (("x", 0, 0), ("x", 1, 0), ("x", 1, 1), ("x", 1, 2))
        self.assertEqual(wrong_in(BOOK, (rooms, ways)), ("out", "x", 1, 3))

    def test_too_few_and_too_many_into(self):
        book = fan_book((0, None), (1, 2))
        rooms = (("a",), ("a",), ("a",), ("b",), ("b",))
        ways = (("x", 0, 3), ("x", 0, 4), ("x", 1, 3), ("x", 2, 3))
        self.assertEqual(wrong_in(book, (rooms, ways)), ("into", "x", 3, 3))
        self.assertEqual(wrong_in(book, (rooms, ways[:1])), ("into", "x", 4, 0))
        self.assertEqual(wrong_in(book, (rooms, ())), ("into", "x", 3, 0))
        self.assertIsNone(wrong_in(book, (rooms, ways[:3])))

    def test_out_ahead_of_into(self):
        book = fan_book((1, 1), (1, 1))
        self.assertEqual(wrong_in(book, ((("b",), ("a",)), ())), ("out", "x", 1, 0))
        self.assertEqual(wrong_in(book, ((("b",), ("a",), ("b",)), (("x", 1, 0),))), ("into", "x", 2, 0))

    def test_door_by_door(self):
        doors = (("x", "a", "b", (0, 1), (1, 1)), ("y", "a", "b", (1, 1), (0, 1)))
        book = (("a", "b"), (), doors)
        self.assertEqual(wrong_in(book, ((("a",), ("b",)), ())), ("into", "x", 1, 0))
        self.assertEqual(wrong_in(book, ((("a",), ("b",)), (("x", 0, 1),))), ("out", "y", 0, 0))
        self.assertIsNone(wrong_in(book, ((("a",), ("b",)), (("x", 0, 1), ("y", 0, 1)))))

    def test_every_many_by_every_fan(self):
        fans = [(low, high) for low in range(5) for high in [None] + list(range(max(1, low), 5))]
        for low, high in fans:
            for many in range(7):
                is_let = low <= many and (high is None or many <= high)
                out_ways = tuple(("x", 0, other) for other in range(1, many + 1))
                house = ((("a",),) + (("b",),) * many, out_ways)
                wrong = wrong_in(fan_book((low, high), (0, None)), house)
                self.assertEqual(wrong, None if is_let else ("out", "x", 0, many))
                into_ways = tuple(("x", one, 0) for one in range(1, many + 1))
                house = ((("b",),) + (("a",),) * many, into_ways)
                wrong = wrong_in(fan_book((0, None), (low, high)), house)
                self.assertEqual(wrong, None if is_let else ("into", "x", 0, many))

    def test_a_way_from_a_room_to_itself_counts_out_and_into(self):
        book = (("a",), (), (("x", "a", "a", (1, 1), (1, 1)),))
        self.assertIsNone(wrong_in(book, ((("a",),), (("x", 0, 0),))))
        self.assertEqual(wrong_in(book, ((("a",),), ())), ("out", "x", 0, 0))
        self.assertEqual(wrong_in(book, ((("a",), ("a",)), (("x", 0, 0), ("x", 1, 0)))), ("into", "x", 0, 2))

    def test_rooms_of_other_kinds_want_nothing(self):
        book = fan_book((1, 1), (1, 1))
        book = (("a", "b", "c"),) + book[1:]
        self.assertIsNone(wrong_in(book, ((("c",), ("c",)), ())))

    def test_against_a_plain_reading(self):
        rand = random.Random(9)
        words = set()
        for book in random_books(11, 2500, kinds=3, rules=2, doors=2, top=2):
            house = random_house(rand, book)
            self.assertTrue(is_house(book, house))
            wrong = wrong_in(book, house)
            self.assertEqual(wrong, plain_wrong(book, house))
            words.add(wrong and wrong[0])
        self.assertEqual(words, {None, "rule", "ends", "out", "into"})


def random_house(rand, book):
    many = rand.randint(0, 4)
    lots = [lot for size in (1, 2, 3) for lot in itertools.combinations(book[0], size)]
    if rand.random() < 0.7:
        lots = [lot for lot in lots if all(low not in lot or high in lot for low, high in book[1])] or lots
    rooms = tuple(rand.choice(lots) for _ in range(many))
    ways = [(door[0], one, other) for door in book[2] for one in range(many) for other in range(many)
            if rand.random() < 0.8 and door[1] in rooms[one] and door[2] in rooms[other] or rand.random() < 0.03]
    return (rooms, tuple(sorted(ways)))


def plain_wrong(book, house):
    """All that is wrong, in the order of the document, and of that the first."""
    rooms, ways = house
    doors = {door[0]: door for door in book[2]}
    wrong = [("rule", low, high, room) for low, high in book[1] for room in range(len(rooms))
             if low in rooms[room] and high not in rooms[room]]
    wrong += [("ends",) + way for way in ways
              if doors[way[0]][1] not in rooms[way[1]] or doors[way[0]][2] not in rooms[way[2]]]
    for name, start, goal, out, into in book[2]:
        for word, kind, fan, place in (("out", start, out, 1), ("into", goal, into, 2)):
            for room in range(len(rooms)):
                many = sum(1 for way in ways if way[0] == name and way[place] == room)
                most = many if fan[1] is None else fan[1]
                if kind in rooms[room] and not fan[0] <= many <= most:
                    wrong.append((word, name, room, many))
    return wrong[0] if wrong else None


class Counts(unittest.TestCase):
    def test_kind_by_kind(self):
        self.assertEqual(counts(BOOK, HOUSE), (1, 2, 3))
        self.assertEqual(counts(BOOK, ((), ())), (0, 0, 0))
        self.assertEqual(counts(BOOK, ((("c",), ("c",)), ())), (0, 0, 2))
        self.assertEqual(counts(BOOK, ((("a",), ("a", "c"), ("a",)), (("x", 0, 1),))), (3, 0, 1))
        self.assertEqual(counts((("q",), (), ()), ((("q",),) * 300, ())), (300,))

    def test_names_that_hold_one_another(self):
        book = (("a", "ab", "b"), (), ())
        self.assertEqual(counts(book, ((("ab",), ("a", "ab")), ())), (1, 2, 0))


if __name__ == "__main__":
    unittest.main()
