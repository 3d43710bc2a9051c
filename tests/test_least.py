"""[15] and the first sentence of [16]: least numbers and the raises to them."""

import itertools
import random
import unittest

from fankinds.bare import living
from fankinds.bounds import RAISES, TOLD
from fankinds.errors import NoneStand
from fankinds.least import least, next_number, raised, raises_to, right_raises
from fankinds.numbers import stands
from tests.samples import all_tuples, as_lists, balanced_books, nested, odd_things, of_other_make, random_books, wheel_books
from tests.test_numbers import least_plainly

ANY = (0, None)
BOOK = (
    ("a", "b", "c", "d"),
    (("a", "b"), ("c", "b")),
    (("x", "a", "c", (3, 3), (1, 2)), ("y", "d", "a", (2, None), (4, None)), ("z", "b", "d", (1, 4), (0, 3))),
)
TOLD_OF = (5, 0, 0, 0)
# c from a by x: 15 / 2; d from some a by y: 4; b from c; d from b by z: 8 / 3, less than there are.
RAISED = (
    ("a", 5, ("told",)), ("b", 5, ("rule", "a")), ("c", 8, ("out", "x")), ("b", 8, ("rule", "c")),
    ("d", 4, ("some", "into", "y")),
)
# Rows of doors whose numbers grow by four at each, or by 4 / 3 each way.
ROW = (tuple("abcdef"), (), tuple(("pqrst"[at], "abcdef"[at], "bcdef"[at], (4, 4), (1, 1)) for at in range(5)))
FALL = (tuple("abcdef"), (), tuple(("pqrst"[at], "abcdef"[at], "bcdef"[at], (3, 3), (4, 4)) for at in range(5)))


def drawn_told(rand, book):
    """Told numbers from 0 to TOLD."""
    return tuple(rand.choice((0, 0, 1, 2, TOLD, rand.randint(0, TOLD))) for _ in book[0])


def many_books(seed):
    """Books of all sizes, of which some are full."""
    books = random_books(seed, 200) + random_books(seed + 1, 150, rules=3, doors=4) + balanced_books(seed + 2, 150)
    return books + wheel_books(seed + 3, 10) + [BOOK, ROW, FALL]


def plainly_right(book, told, raises):
    """[15] told once more, of a tuple of raises of the form."""
    told = dict(zip(book[0], told))
    doors = {door[0]: door for door in book[2]}
    many = {kind: 0 for kind in book[0]}
    for kind, number, why in raises:
        if plain_number(book, told, doors, many, kind, why) != number or number <= many[kind]:
            return False
        many[kind] = number
    return True


def plain_number(book, told, doors, many, kind, why):
    if why == ("told",):
        return told[kind]
    if why[0] == "rule":
        return many[why[1]] if (why[1], kind) in book[1] else None
    if why[-1] not in doors:
        return None
    name, start, goal, out, into = doors[why[-1]]
    ends = (start, goal, out[0], into[1]) if why[-2] == "out" else (goal, start, into[0], out[1])
    one, other, low, high = ends
    if other != kind:
        return None
    if why[0] == "some":
        return low if many[one] > 0 else None
    return None if high is None else next(n for n in itertools.count() if low * many[one] <= high * n)


class Least(unittest.TestCase):
    def test_ordinary(self):
        self.assertEqual(least(BOOK, TOLD_OF), (5, 8, 8, 4))
        self.assertEqual(least(BOOK, (0, 0, 0, 0)), (0, 0, 0, 0))
        self.assertEqual(least(BOOK, (0, 0, 0, 1)), (2, 3, 3, 4))

    def test_rows_of_doors(self):
        self.assertEqual(least(ROW, (40, 0, 0, 0, 0, 0)), (40, 160, 640, 2560, 10240, 40960))
        self.assertEqual(least(ROW, (0, 0, 0, 0, 0, 1)), (1, 4, 16, 64, 256, 1024))
        self.assertEqual(least(ROW, (0, 0, 0, 0, 0, 40)), (1, 4, 16, 64, 256, 1024))
        self.assertEqual(least(ROW, (1, 0, 0, 40, 0, 0)), (1, 4, 16, 64, 256, 1024))
        for told in ((1, 0, 0, 0, 0, 0), (0, 0, 0, 0, 0, 40), (40, 40, 40, 40, 40, 40)):
            self.assertEqual(least(FALL, told), (1024, 768, 576, 432, 324, 243))

    def test_none(self):
        book = (("a", "b", "c"), (("a", "b"),), (("x", "b", "b", (2, 2), (1, 1)),))
        for told in itertools.product((0, 1, 40), repeat=3):
            self.assertEqual(least(book, told), None if told[0] or told[1] else told)

    def test_lows_where_highs_are_any(self):
        book = (("a", "b"), (), (("x", "a", "b", (3, None), (2, None)),))
        self.assertEqual(least(book, (1, 0)), (2, 3))
        self.assertEqual(least(book, (0, 1)), (2, 3))
        self.assertEqual(least(book, (7, 0)), (7, 3))
        self.assertEqual(least(book, (0, 0)), (0, 0))

    def test_against_a_plain_going_round(self):
        rand = random.Random(111)
        seen = set()
        for book in many_books(112):
            for _ in range(3):
                told = drawn_told(rand, book)
                numbers = least(book, told)
                self.assertEqual(numbers, least_plainly(book, told), (book, told))
                if numbers is not None:
                    self.assertIs(stands(book, numbers), True)
                    self.assertTrue(all(number >= one for number, one in zip(numbers, told)))
                seen.add((numbers is None, numbers == told))
        self.assertEqual(seen, {(True, False), (False, True), (False, False)})

    def test_no_greater_than_in_any_others(self):
        rand = random.Random(116)
        found = 0
        for book in random_books(117, 150, kinds=3, rules=3, doors=3) + balanced_books(118, 60, kinds=3):
            told = tuple(rand.randint(0, 3) for _ in book[0])
            others = [numbers for numbers in itertools.product(range(9), repeat=len(book[0])) if stands(book, numbers)]
            others = [numbers for numbers in others if all(number >= one for number, one in zip(numbers, told))]
            numbers = least(book, told)
            if others:
                self.assertEqual(numbers, tuple(min(column) for column in zip(*others)), (book, told))
                found += 1
            elif numbers is not None:
                self.assertGreaterEqual(max(numbers), 9)
        self.assertGreater(found, 80)

    def test_none_just_where_a_bare_kind_is_told(self):
        rand = random.Random(119)
        for book in many_books(120):
            told = drawn_told(rand, book)
            bare = any(number and kind not in living(book) for kind, number in zip(book[0], told))
            self.assertIs(least(book, told) is None, bare)


class RightRaises(unittest.TestCase):
    def yes(self, *raises, told=TOLD_OF):
        self.assertIs(right_raises(BOOK, told, raises), True, raises)

    def no(self, *raises, told=TOLD_OF):
        self.assertIs(right_raises(BOOK, told, raises), False, repr(raises)[:200])

    def test_right(self):
        self.yes()
        for many in range(len(RAISED) + 1):
            self.yes(*RAISED[:many])
        self.assertEqual(raised(BOOK, RAISED), least(BOOK, TOLD_OF))

    def test_one_out(self):
        for at in range(len(RAISED)):
            rest = RAISED[:at] + RAISED[at + 1:]
            self.assertIs(right_raises(BOOK, TOLD_OF, rest), plainly_right(BOOK, TOLD_OF, rest))
        self.no(*RAISED[1:])
        self.no(RAISED[0], RAISED[1], RAISED[3])
        self.yes(RAISED[0], *RAISED[2:])

    def test_twice(self):
        for at in range(len(RAISED)):
            self.no(*(RAISED[:at + 1] + RAISED[at:]))
            self.no(*(RAISED + RAISED[at:at + 1]))

    def test_turned_about(self):
        for order in itertools.permutations(RAISED):
            self.assertIs(right_raises(BOOK, TOLD_OF, order), plainly_right(BOOK, TOLD_OF, order))
        self.no(*RAISED[::-1])
        self.yes(RAISED[0], RAISED[4], RAISED[2], RAISED[3])

    def test_another_kind_number_or_why(self):
        whys = [("told",)] + [("rule", kind) for kind in "abcd"]
        whys += [(side, name) for side in ("out", "into") for name in "wxyz"]
        whys += [("some",) + why for why in whys[5:]]
        right = 0
        for at, (kind, number, why) in enumerate(RAISED):
            for other in [(some, number, why) for some in "abcde"] + [(kind, number + more, why) for more in (-1, 1, 2, -number)]:
                changed = RAISED[:at] + (other,)
                self.assertIs(right_raises(BOOK, TOLD_OF, changed), other == RAISED[at])
            for some, other in itertools.product("abcd", whys):
                changed = RAISED[:at] + ((some, number, other),)
                self.assertIs(right_raises(BOOK, TOLD_OF, changed), plainly_right(BOOK, TOLD_OF, changed), changed)
                right += right_raises(BOOK, TOLD_OF, changed)
        self.assertGreaterEqual(right, len(RAISED))

    def test_no_greater_than_ahead(self):
        self.no(("a", 0, ("told",)), told=(0, 0, 0, 0))
        self.no(("b", 0, ("told",)))
        self.no(RAISED[0], ("b", 5, ("rule", "a")), ("b", 5, ("rule", "a")))
        self.no(("a", 5, ("told",)), ("c", 8, ("out", "x")), ("b", 8, ("rule", "c")), ("b", 5, ("rule", "a")))
        self.no(("c", 0, ("out", "x")))
        self.yes(("a", 5, ("told",)), ("c", 8, ("out", "x")), told=(5, 0, 5, 0))
        self.no(("a", 5, ("told",)), ("c", 8, ("told",)), ("c", 8, ("out", "x")), told=(5, 0, 8, 0))
        self.yes(("b", 5, ("told",)), ("d", 2, ("out", "z")), ("a", 2, ("some", "out", "y")), told=(9, 5, 0, 0))

    def test_some_where_there_are_none(self):
        self.no(("d", 4, ("some", "into", "y")))
        self.no(("a", 2, ("some", "out", "y")))
        self.no(("c", 3, ("some", "out", "x")))
        self.no(("c", 0, ("some", "out", "x")))
        self.yes(RAISED[0], ("d", 4, ("some", "into", "y")))
        self.yes(RAISED[0], ("c", 3, ("some", "out", "x")), ("c", 8, ("out", "x")))
        self.no(RAISED[0], ("c", 8, ("out", "x")), ("c", 3, ("some", "out", "x")))

    def test_highs_of_none(self):
        first = ("d", 9, ("told",))
        for number in range(40):
            self.no(first, ("a", number, ("out", "y")), told=(0, 0, 0, 9))
            self.no(RAISED[0], ("d", number, ("into", "y")))
        self.yes(first, ("a", 2, ("some", "out", "y")), told=(0, 0, 0, 9))
        # The other fan's high tells: y's highs are both None, of z both aren't.
        self.yes(("b", 7, ("told",)), ("d", 3, ("out", "z")), told=(0, 7, 0, 0))
        book = (("a", "b"), (), (("x", "a", "b", (3, None), (1, 2)),))
        told = (4, 0)
        self.assertIs(right_raises(book, told, (("a", 4, ("told",)), ("b", 6, ("out", "x")))), True)
        for number in range(9):
            paper = (("b", 9, ("told",)), ("a", number, ("into", "x")))
            self.assertIs(right_raises(book, (0, 9), paper), False)

    def test_rules_and_doors_that_there_are_not(self):
        for why in (("rule", "b"), ("rule", "d"), ("rule", "e"), ("rule", "x"), ("out", "w"), ("out", "a"), ("into", "w"),
                    ("some", "out", "w"), ("some", "over", "x"), ("over", "x"), ("some", "rule", "a")):
            for kind, number in itertools.product("abcd", range(1, 16)):
                self.no(RAISED[0], (kind, number, why))

    def test_lengths_and_words(self):
        for entry in ((), ("a",), ("a", 5), ("a", 5, ("told",), ()), ("a", 5, "told"), ("a", 5, ()), ("a", 5, ("told", "a")),
                      ("a", 5, ("tell",)), ("a", 5, ("rule",)), ("a", 5, ("some",)), ("a", 5, ("some", "told")),
                      (("told",), 5, "a"), (5, "a", ("told",))):
            self.no(entry)
        self.no(RAISED[0], ("b", 5, ("rule", "a", "b")))
        self.no(RAISED[0], ("b", 5, ("rule", ("a", "b"))))
        self.no(RAISED[0], ("c", 8, ("out", "x", "x")))
        self.no(RAISED[0], ("c", 3, ("some", ("out", "x"))))
        self.no(RAISED[0], ("d", 4, ("some", "y")))
        self.no(RAISED)

    def test_truths(self):
        self.no(("a", True, ("told",)), told=(1, 0, 0, 0))
        self.yes(("a", 1, ("told",)), told=(1, 0, 0, 0))
        self.no(("a", 1, ("told",)), ("b", True, ("rule", "a")), told=(1, 0, 0, 0))

    def test_other_told_numbers(self):
        for told in itertools.product((0, 4, 5, 6, 40), repeat=4):
            self.assertIs(right_raises(BOOK, told, RAISED), told[0] == 5)
            self.assertIs(right_raises(BOOK, told, ()), True)

    def test_odd_things(self):
        for thing in odd_things():
            self.assertIs(right_raises(BOOK, TOLD_OF, thing), isinstance(thing, tuple) and thing == ())
            self.no(thing)
            self.no(RAISED[0], thing)
            self.no(RAISED[0], (thing, 5, ("told",)))
            self.no(RAISED[0], ("b", thing, ("rule", "a")) if thing != 5 else None)
            self.no(RAISED[0], ("b", 5, thing))
            self.no(RAISED[0], ("b", 5, ("rule", thing)) if thing != "a" else None)
            self.no(RAISED[0], ("c", 8, ("out", thing)))
            self.no(RAISED[0], ("c", 8, (thing, "x")) if thing != "out" else None)
            self.no(RAISED[0], ("c", 3, (thing, "out", "x")))
            self.no(RAISED[0], ("c", 3, ("some", thing, "x")) if thing != "out" else None)

    def test_odd_parts_at_any_depth(self):
        for path, changed in of_other_make(RAISED):
            self.assertIs(right_raises(BOOK, TOLD_OF, changed), path == () and changed == ())
        for changed in as_lists(RAISED):
            self.assertIs(right_raises(BOOK, TOLD_OF, changed), False)
        self.no(nested(lambda thing: (thing,), 39))
        self.no(*(RAISED * 1500))

    def test_raises_drawn_by_chance(self):
        rand = random.Random(121)
        seen = {True: 0, False: 0}
        for book in random_books(122, 250, kinds=3, rules=3, doors=3, top=3):
            told = tuple(rand.randint(0, 3) for _ in book[0])
            for _ in range(10):
                raises = drawn_raises(rand, book, told)
                right = right_raises(book, told, raises)
                self.assertIs(right, plainly_right(book, told, raises), (book, told, raises))
                seen[right and len(raises) > 2] += 1
        self.assertGreater(min(seen.values()), 300)


def drawn_raises(rand, book, told):
    """Raises by chance, most of them right."""
    doors = {door[0]: door for door in book[2]}
    whys = [("told",)] + [("rule", low) for low, high in book[1]]
    for name in doors:
        whys += [("out", name), ("into", name), ("some", "out", name), ("some", "into", name)]
    many = {kind: 0 for kind in book[0]}
    raises = []
    for _ in range(rand.randint(1, 60)):
        kind, why = rand.choice(book[0]), rand.choice(whys)
        number = plain_number(book, dict(zip(book[0], told)), doors, many, kind, why)
        if number is not None and number > many[kind] and number < 100 or rand.random() < 0.005:
            raises.append((kind, number if number is not None else rand.randint(0, 5), why))
            many[kind] = raises[-1][1]
    return tuple(raises)


class RaisesTo(unittest.TestCase):
    def check(self, book, told):
        numbers = least(book, told)
        if numbers is None:
            self.assertRaises(NoneStand, raises_to, book, told)
            return 0
        raises = raises_to(book, told)
        self.assertTrue(all_tuples(raises))
        self.assertLessEqual(len(raises), RAISES, (book, told))
        self.assertIs(right_raises(book, told, raises), True, (book, told))
        self.assertIs(plainly_right(book, told, raises), True, (book, told))
        self.assertEqual(raised(book, raises), numbers)
        self.seen |= {raised_by[2][:1] for raised_by in raises}
        return len(raises)

    def setUp(self):
        self.seen = set()

    def test_none_told(self):
        for book in many_books(123):
            self.assertEqual(raises_to(book, (0,) * len(book[0])), ())

    def test_ordinary(self):
        self.check(BOOK, TOLD_OF)
        for told in itertools.product((0, 1, 40), repeat=4):
            self.check(BOOK, told)

    def test_many_books(self):
        rand = random.Random(124)
        refused = 0
        for book in many_books(125):
            for _ in range(2):
                refused += self.check(book, drawn_told(rand, book)) == 0
        self.assertGreater(refused, 50)
        self.assertEqual(self.seen, {("told",), ("rule",), ("out",), ("into",), ("some",)})

    def test_each_kind_told_alone(self):
        for book in many_books(129)[::7] + [ROW, FALL]:
            for at, number in itertools.product(range(len(book[0])), (1, TOLD)):
                self.check(book, tuple(number if place == at else 0 for place in range(len(book[0]))))

    def test_great_numbers(self):
        self.assertEqual(raised(ROW, raises_to(ROW, (TOLD,) + (0,) * 5))[-1], 40960)
        for out, into in itertools.product(((4, 4), (3, 3), (2, 3), (4, None)), ((1, 1), (3, 3), (2, 4), (0, 3))):
            book = (ROW[0], (), tuple((name, start, goal, out, into) for name, start, goal, old, older in ROW[2]))
            back = (ROW[0], (("f", "a"),), book[2])
            for told in ((TOLD, 0, 0, 0, 0, 0), (0, 0, 0, 0, 0, TOLD), (1, 0, 0, TOLD, 0, 0), (TOLD,) * 6):
                self.check(book, told)
                self.check(back, told)

    def test_many_raises(self):
        # Doors by which the numbers come to be just so only at 1024, each time raised by little.
        tolds = ((1, 0, 1, 1, 1, 0), (0, 1, 1, 0, 0, 1), (TOLD,) * 6)
        many = [self.check(book, told) for book in tangled_books() for told in tolds]
        self.assertGreater(max(many), 1000)


def tangled_books():
    """Books of many raises, by orders in which few come quickly to their number."""
    exact = ((3, 3), (4, 4))
    told = []
    for pairs in (("ef", "ba", "ed", "cd", "bc"), ("dc", "ed", "eb", "fb", "af"), ("fb", "ac", "dc", "de", "be"),
                  ("ab", "bc", "cd", "de", "ef")):
        for turn in (1, -1):
            fans = exact[::turn]
            told.append((tuple("abcdef"), (), tuple(("pqrst"[at],) + tuple(pair) + fans for at, pair in enumerate(pairs))))
    fall = {"ef": exact, "ba": exact[::-1], "ed": exact[::-1], "cd": exact, "bc": exact}
    told.append((tuple("abcdef"), (), tuple(("pqrst"[at],) + tuple(pair) + fall[pair] for at, pair in enumerate(fall))))
    return told


class Raised(unittest.TestCase):
    def test_the_last_of_each_kind(self):
        self.assertEqual(raised(BOOK, ()), (0, 0, 0, 0))
        self.assertEqual(raised(BOOK, RAISED[:2]), (5, 5, 0, 0))
        self.assertEqual(raised(BOOK, RAISED[:4]), (5, 8, 8, 0))
        self.assertEqual(raised(BOOK, RAISED), (5, 8, 8, 4))


class NextNumber(unittest.TestCase):
    def test_ordinary(self):
        book = (("a", "b"), (("a", "b"),), (("x", "b", "a", (3, 3), (4, 4)),))
        self.assertEqual([next_number(book, "a", n) for n in range(9)], [0, 3, 3, 3, 6, 6, 6, 9, 9])
        self.assertEqual([next_number(book, "b", n) for n in range(9)], [0, 4, 4, 4, 4, 8, 8, 8, 8])

    def test_lows(self):
        book = (("a", "b"), (), (("x", "a", "b", (3, None), (2, None)),))
        self.assertEqual([next_number(book, "a", n) for n in range(5)], [0, 2, 2, 3, 4])
        self.assertEqual([next_number(book, "b", n) for n in range(5)], [0, 3, 3, 3, 4])

    def test_bare(self):
        book = (("a", "b", "c"), (("a", "b"),), (("x", "b", "b", (2, 2), (1, 1)),))
        for n in range(TOLD + 1):
            self.assertEqual(next_number(book, "a", n), 0 if n == 0 else None)
            self.assertEqual(next_number(book, "b", n), 0 if n == 0 else None)
            self.assertEqual(next_number(book, "c", n), n)

    def test_from_each_number(self):
        seen = set()
        for book in random_books(130, 25) + balanced_books(131, 20) + [ROW, FALL, BOOK]:
            for kind in book[0]:
                alive = kind in living(book)
                for n in range(TOLD + 1):
                    told = tuple(n if known == kind else 0 for known in book[0])
                    number = next_number(book, kind, n)
                    numbers = least_plainly(book, told)
                    self.assertEqual(number, None if numbers is None else numbers[book[0].index(kind)])
                    self.assertIs(number is None, n > 0 and not alive)
                    seen.add((alive, number == n))
        self.assertEqual(seen, {(True, True), (True, False), (False, True), (False, False)})

    def test_there_is_none_between(self):
        for book in random_books(132, 30, kinds=2, doors=2) + balanced_books(133, 30, kinds=2, doors=2):
            others = [numbers for numbers in itertools.product(range(30), repeat=len(book[0])) if stands(book, numbers)]
            for at, kind in enumerate(book[0]):
                for n in range(8):
                    had = [numbers[at] for numbers in others if numbers[at] >= n]
                    if had:
                        self.assertEqual(next_number(book, kind, n), min(had))


if __name__ == "__main__":
    unittest.main()
