"""[8]: plans of houses that go on for ever."""

import itertools
import random
import unittest

from fankinds.bounds import DOORS
from fankinds.errors import HasRow
from fankinds.plans import plan_of, right_plan
from fankinds.rows import above, row_to
from tests.samples import (all_tuples, as_lists, balanced_books, nested, odd_things, of_other_make, random_books, replaced,
                           wheel_books)

ANY = (0, None)
BOOK = (
    ("a", "b", "c"),
    (("a", "b"),),
    (("x", "a", "c", (2, 3), (1, 1)), ("y", "c", "b", (1, None), (0, 2))),
)
# A room of a has two of c behind it; each c, come into by x, leads by y to a room of b, of which it is the only one.
A_SORT = (("a", "b"), None, (("x", "out", 2, 1),))
C_SORT = (("c",), ("x", "into"), (("y", "out", 1, 2),))
B_SORT = (("b",), ("y", "into"), ())
PLAN = (A_SORT, C_SORT, B_SORT)


def plainly_right(book, low, high, plan):
    """[8] told once more, of what is of a plan's form."""
    if low not in plan[0][0] or high in plan[0][0] or plan[0][1] is not None:
        return False
    if any(came is None for lot, came, on in plan[1:]):
        return False
    for lot, came, on in plan:
        if any(one in lot and other not in lot for one, other in book[1]) or list(lot) != sorted(set(lot)):
            return False
        if list(on) != sorted(on) or len({entry[:2] for entry in on}) < len(on):
            return False
        for name, side, many, further in on:
            if many < 1 or plan[further][1] != (name, "into" if side == "out" else "out"):
                return False
        for name, start, goal, out, into in book[2]:
            for side, kind, fan in (("out", start, out), ("into", goal, into)):
                many = sum(entry[2] for entry in on if entry[:2] == (name, side)) + (came == (name, side))
                if kind not in lot and many > 0:
                    return False
                if kind in lot and (many < fan[0] or fan[1] is not None and many > fan[1]):
                    return False
    return True


class RightPlan(unittest.TestCase):
    def yes(self, *sorts, low="a", high="c", book=BOOK):
        self.assertIs(right_plan(book, low, high, sorts), True, sorts)

    def no(self, *sorts, low="a", high="c", book=BOOK):
        self.assertIs(right_plan(book, low, high, sorts), False, repr(sorts)[:200])

    def test_right(self):
        self.yes(*PLAN)
        self.yes(*PLAN, low="b")
        self.yes((("c",), None, (("x", "into", 1, 1), ("y", "out", 1, 2))),
                 (("a", "b"), ("x", "out"), (("x", "out", 1, 3),)), B_SORT, (("c",), ("x", "into"), (("y", "out", 1, 2),)),
                 low="c", high="a")
        self.yes((("b",), None, ()), low="b", high="a")

    def test_more_than_is_wanted(self):
        self.yes((("a", "b"), None, (("x", "out", 3, 1),)), C_SORT, B_SORT)
        self.yes((("a", "b"), None, (("x", "out", 2, 1), ("y", "into", 2, 3))), C_SORT, B_SORT,
                 (("c",), ("y", "out"), (("x", "into", 1, 4),)), (("a", "b"), ("x", "out"), (("x", "out", 1, 1),)))
        self.no((("a", "b"), None, (("x", "out", 4, 1),)), C_SORT, B_SORT)
        self.no((("a", "b"), None, (("x", "out", 1, 1),)), C_SORT, B_SORT)

    def test_any_size_where_the_high_is_none(self):
        for many in (1, 2, 5, 300, 10 ** 29):
            self.yes(A_SORT, (("c",), ("x", "into"), (("y", "out", many, 2),)), B_SORT)

    def test_sorts_to_which_nothing_leads(self):
        self.yes(*PLAN, B_SORT, C_SORT)
        self.yes(*PLAN, (("b", "c"), ("y", "into"), (("x", "into", 1, 4), ("y", "out", 1, 2))),
                 (("a", "b"), ("x", "out"), (("x", "out", 1, 1),)))
        self.no(*PLAN, (("b", "c"), ("y", "into"), ()))
        self.no(*PLAN, (("b",), None, ()))

    def test_none(self):
        self.no()

    def test_sorts_out_twice_exchanged(self):
        for at in range(3):
            self.no(*(PLAN[:at] + PLAN[at + 1:]))
        self.no(A_SORT, *PLAN)
        self.yes(*PLAN, B_SORT)
        self.no(A_SORT, C_SORT, C_SORT, B_SORT)
        for order in itertools.permutations(PLAN):
            self.assertIs(right_plan(BOOK, "a", "c", order), order == PLAN)

    def test_lots(self):
        for lot in (("b", "a"), ("a",), ("a", "a", "b"), (), ("a", "b", "d"), ["a", "b"], "ab", ("a", "b", "c"), (("a", "b"),),
                    ("b",), None, ("a", None)):
            self.no((lot, None, (("x", "out", 2, 1),)), C_SORT, B_SORT)
        self.no(A_SORT, C_SORT, ((), ("y", "into"), ()))
        self.no(A_SORT, C_SORT, (("a", "b"), ("y", "into"), ()))
        self.no(A_SORT, C_SORT, (("c",), ("y", "into"), ()))
        self.no(A_SORT, ((), ("x", "into"), ()))

    def test_sort_0(self):
        self.no(*PLAN, low="c", high="a")
        self.no(*PLAN, low="a", high="b")
        self.no(*PLAN, low="a", high="a")
        self.no(*PLAN, low="c", high="c")
        self.no((("a", "b"), ("x", "out"), (("x", "out", 1, 1),)), C_SORT, B_SORT)
        self.no((("a", "b"), ("y", "into"), (("x", "out", 2, 1),)), C_SORT, B_SORT)

    def test_others_without_a_came(self):
        self.no(A_SORT, (("c",), None, (("x", "into", 1, 0), ("y", "out", 1, 2))), B_SORT)
        self.no(A_SORT, C_SORT, (("b",), None, ()))
        self.no(*PLAN, (("b",), None, ()))

    def test_cames(self):
        for came in (("x", "out"), ("y", "into"), ("y", "out"), ("z", "into"), ("x", "over"), ("x",), ("x", "into", 1), "x", (),
                     ["x", "into"], ("into", "x"), (None, "into"), ("x", None), ("x", True), True, 0):
            self.no(A_SORT, (("c",), came, (("y", "out", 1, 2),)), B_SORT)

    def test_cames_to_which_nothing_leads(self):
        for came in (("z", "into"), ("a", "into"), ("x", "over"), ("x",), ("x", "over", 1), "x", (), ["y", "into"], (None, "into"),
                     ("y", None), True, False, 0, {}):
            self.no(*PLAN, (("b",), came, ()))
        self.yes(*PLAN, B_SORT)

    def test_doors_and_sides_that_there_are_not(self):
        for name, side, far in (("z", "out", "into"), ("z", "into", "out"), ("y", "over", "out"), ("y", "", "out"), ("a", "out", "into")):
            self.no(A_SORT, C_SORT, (("b",), ("y", "into"), ((name, side, 1, 3),)), (("b",), (name, far), ()))
            self.no((("b",), None, ((name, side, 1, 1),)), (("c",), (name, far), (("y", "out", 1, 2),)), B_SORT, low="b", high="a")
            self.no((("b",), None, ((name, side, 1, 1),)), (("b",), (name, far), ()), low="b", high="a")
        lax = (("a", "b"), (), (("x", "a", "a", ANY, ANY),))
        for side in ("over", "", "Out", "in"):
            self.no((("a",), None, (("x", side, 1, 1),)), (("a",), ("x", "out"), ()), book=lax, high="b")
        self.yes((("a",), None, (("x", "into", 1, 1),)), (("a",), ("x", "out"), ()), book=lax, high="b")

    def test_an_on_out_of_order(self):
        doors = (("x", "a", "b", (1, 1), (1, 1)), ("y", "a", "b", (1, 1), (0, 1)), ("z", "b", "a", ANY, (2, 2)))
        book = (("a", "b"), (), doors)
        on = (("x", "out", 1, 1), ("y", "out", 1, 2), ("z", "into", 2, 3))
        back = (("a",), ("x", "out"), (("y", "out", 1, 2), ("z", "into", 2, 3)))
        into = (("b",), ("y", "into"), (("x", "into", 1, 4),))
        out = (("b",), ("z", "out"), (("x", "into", 1, 4),))
        rest = ((("b",), ("x", "into"), ()), into, out, back)
        self.yes((("a",), None, on), *rest, book=book, high="b")
        for order in itertools.permutations(on):
            self.assertIs(right_plan(book, "a", "b", ((("a",), None, order),) + rest), order == on)

    def test_into_is_ahead_of_out(self):
        book = (("a",), (), (("x", "a", "a", (1, 1), (1, 1)),))
        more = (("a", "b"), (), book[2])
        on = (("x", "into", 1, 1), ("x", "out", 1, 2))
        out = (("a",), ("x", "out"), (("x", "into", 1, 1),))
        into = (("a",), ("x", "into"), (("x", "out", 1, 2),))
        self.yes((("a",), None, on), out, into, book=more, high="b")
        self.no((("a",), None, on[::-1]), out, into, book=more, high="b")
        self.no((("a",), None, on), out, into, book=book, high="a")

    def test_twice_in_door_and_side(self):
        self.no((("a", "b"), None, (("x", "out", 1, 1), ("x", "out", 1, 1))), C_SORT, B_SORT)
        self.no((("a", "b"), None, (("x", "out", 1, 1), ("x", "out", 1, 3))), C_SORT, B_SORT, C_SORT)
        self.no((("a", "b"), None, (("x", "out", 1, 1), ("x", "out", 2, 1))), C_SORT, B_SORT)

    def test_many_below_1(self):
        for many in (0, -1, -2, None, True, "2", (2,)):
            self.no((("a", "b"), None, (("x", "out", many, 1),)), C_SORT, B_SORT)
            self.no(A_SORT, (("c",), ("x", "into"), (("y", "out", many, 2),)), B_SORT)
        self.no(A_SORT, C_SORT, (("b",), ("y", "into"), (("y", "into", 0, 3),)), (("c",), ("y", "out"), (("x", "into", 1, 4),)),
                (("a", "b"), ("x", "out"), (("x", "out", 1, 1),)))
        lax = (("a", "b"), (), (("x", "a", "a", ANY, ANY),))
        far = (("a",), ("x", "into"), ())
        self.yes((("a",), None, (("x", "out", 1, 1),)), far, book=lax, high="b")
        self.no((("a",), None, (("x", "out", 0, 1),)), far, book=lax, high="b")
        self.no((("a",), None, (("x", "out", -1, 1),)), far, book=lax, high="b")

    def test_sorts_that_there_are_not(self):
        for sort in (3, -1, -2, 10 ** 29, None, True, "1", (1,), 0, 2):
            self.no((("a", "b"), None, (("x", "out", 2, sort),)), C_SORT, B_SORT)

    def test_a_sort_that_came_by_another(self):
        self.no((("a", "b"), None, (("x", "out", 2, 2),)), C_SORT, B_SORT)
        doors = (("x", "a", "b", (1, 1), ANY), ("y", "a", "b", (1, 1), ANY))
        book = (("a", "b"), (), doors)
        by_x, by_y = (("b",), ("x", "into"), ()), (("b",), ("y", "into"), ())
        for one, other in itertools.product((1, 2), repeat=2):
            plan = ((("a",), None, (("x", "out", 1, one), ("y", "out", 1, other))), by_x, by_y)
            self.assertIs(right_plan(book, "a", "b", plan), (one, other) == (1, 2))
        # Of a door from a kind to itself the side alone tells them apart.
        book = (("a", "b"), (), (("x", "a", "a", (1, 1), ANY),))
        into = (("a",), ("x", "into"), (("x", "out", 1, 1),))
        out = (("a",), ("x", "out"), ())
        self.yes((("a",), None, (("x", "out", 1, 1),)), into, out, book=book, high="b")
        self.no((("a",), None, (("x", "out", 1, 2),)), into, out, book=book, high="b")

    def test_too_few_or_too_many_ways(self):
        book = (("a", "b"), (), (("x", "a", "b", (2, 3), (2, 3)),))
        for first, out, into in itertools.product(range(1, 6), range(1, 5), range(1, 5)):
            plan = ((("a",), None, (("x", "out", first, 1),)), (("b",), ("x", "into"), (("x", "into", into, 2),)),
                    (("a",), ("x", "out"), (("x", "out", out, 1),)))
            right = 2 <= first <= 3 and 1 <= out <= 2 and 1 <= into <= 2
            self.assertIs(right_plan(book, "a", "b", plan), right)
        self.no((("a",), None, ()), book=book, high="b")

    def test_ways_of_a_door_whose_kind_it_has_not(self):
        self.no((("a", "b"), None, (("x", "out", 2, 1), ("y", "out", 1, 2))), C_SORT, B_SORT)
        self.no(A_SORT, C_SORT, (("b",), ("y", "into"), (("x", "out", 2, 1),)))
        self.no(A_SORT, C_SORT, (("b",), ("x", "into"), ()))
        self.no(A_SORT, C_SORT, B_SORT, (("c",), ("x", "out"), (("x", "into", 1, 4), ("y", "out", 1, 2))),
                (("a", "b"), ("x", "out"), (("x", "out", 1, 1),)))

    def test_other_lengths(self):
        for sort in ((), (("a", "b"),), (("a", "b"), None), A_SORT + ((),), [*A_SORT], None, "abc", 3):
            self.no(sort, C_SORT, B_SORT)
        for entry in ((), ("x",), ("x", "out", 2), ("x", "out", 2, 1, 1), ["x", "out", 2, 1], ("x", 2, 1), (("x", "out"), 2, 1),
                      ("out", "x", 2, 1), ("x", "over", 2, 1), ("z", "out", 2, 1), "xout", None):
            self.no((("a", "b"), None, (entry,)), C_SORT, B_SORT)
        self.no((("a", "b"), None, [("x", "out", 2, 1)]), C_SORT, B_SORT)
        self.no((("a", "b"), None, None), C_SORT, B_SORT)
        self.no((("a", "b"), None, ("x", "out", 2, 1)), C_SORT, B_SORT)
        self.no(PLAN)

    def test_odd_things(self):
        for thing in odd_things():
            self.assertIs(right_plan(BOOK, "a", "c", thing), False)
            self.no(thing)
            self.no(*PLAN, thing)
            for at, part in itertools.product(range(3), range(3)):
                if PLAN[at][part] != thing:
                    changed = replaced(PLAN, (at, part), thing)
                    self.assertIs(right_plan(BOOK, "a", "c", changed), False, changed)

    def test_odd_parts_at_any_depth(self):
        for path, changed in of_other_make(PLAN):
            self.assertIs(right_plan(BOOK, "a", "c", changed), False, path)
        for changed in as_lists(PLAN):
            self.assertIs(right_plan(BOOK, "a", "c", changed), False)
        self.no(nested(lambda thing: (thing,), 39))
        self.yes(*PLAN, *((B_SORT,) * 4000))
        self.no(*PLAN, *((B_SORT,) * 4000), A_SORT)

    def test_numbers_and_words_changed_one_by_one(self):
        seen = {True: 0, False: 0}
        rand = random.Random(141)
        for book in random_books(142, 40, kinds=3, rules=2, doors=3):
            for low, high in itertools.product(book[0], repeat=2):
                if row_to(book, low, high) is None:
                    for plan in changed_plans(rand, book, plan_of(book, low, high)):
                        right = right_plan(book, low, high, plan)
                        self.assertIs(right, plainly_right(book, low, high, plan), (book, low, high, plan))
                        seen[right] += 1
        self.assertGreater(min(seen.values()), 300)


def changed_plans(rand, book, plan):
    """Plans of the form near to a right one."""
    for _ in range(30):
        sorts = [[list(lot), came, [list(entry) for entry in on]] for lot, came, on in plan]
        sort = rand.choice(sorts)
        how = rand.randrange(6)
        if how == 0:
            sort[0] = sorted(set(sort[0]) ^ {rand.choice(book[0])})
        elif how == 1 and book[2]:
            sort[1] = rand.choice([None, (rand.choice(book[2])[0], rand.choice(("out", "into")))])
        elif how == 2 and book[2]:
            name, side = rand.choice(book[2])[0], rand.choice(("out", "into"))
            far = [at for at, other in enumerate(plan) if other[1] == (name, "into" if side == "out" else "out")]
            if [name, side] not in [entry[:2] for entry in sort[2]]:
                sort[2] = sorted(sort[2] + [[name, side, rand.randint(1, 3), far[0]]])
        elif sort[2] and how == 3:
            rand.choice(sort[2])[2] += rand.choice((1, 1, -1, 2))
        elif sort[2] and how == 4:
            rand.choice(sort[2])[3] = rand.randrange(len(plan))
        elif sort[2] and how == 5:
            sort[2].remove(rand.choice(sort[2]))
        if all(lot for lot, came, on in sorts):
            yield tuple((tuple(lot), came, tuple(tuple(entry) for entry in on)) for lot, came, on in sorts)


class PlanOf(unittest.TestCase):
    def check(self, book):
        for low, high in itertools.product(book[0], repeat=2):
            row = row_to(book, low, high)
            if row is not None:
                with self.assertRaises(HasRow) as caught:
                    plan_of(book, low, high)
                self.assertEqual(caught.exception.row, row)
                self.seen.add("row")
                continue
            plan = plan_of(book, low, high)
            self.assertTrue(all_tuples(plan))
            self.assertLessEqual(len(plan), 1 + 2 * DOORS)
            self.assertIs(right_plan(book, low, high, plan), True, (book, low, high))
            self.assertIs(plainly_right(book, low, high, plan), True)
            self.seen |= {entry[2] for sort in plan for entry in sort[2]}

    def setUp(self):
        self.seen = set()

    def test_ordinary(self):
        self.check(BOOK)
        self.assertEqual(plan_of(BOOK, "a", "c")[0][0], above(BOOK, "a"))

    def test_without_doors(self):
        book = (("a", "b", "c"), (("a", "b"),), ())
        self.check(book)
        self.assertIs(right_plan(book, "b", "a", ((("b",), None, ()),)), True)

    def test_many_books(self):
        full = [book for book in random_books(143, 600) if len(book[0]) == 6 and len(book[2]) == 6]
        self.assertGreater(len(full), 8)
        for book in full + random_books(144, 150) + balanced_books(145, 60) + wheel_books(146, 15):
            self.check(book)
        self.assertEqual(self.seen, {"row", 1, 2, 3, 4})

    def test_doors_from_a_kind_to_itself(self):
        fans = [(0, None), (0, 1), (0, 4), (1, 1), (1, 4), (2, None), (4, 4), (4, None)]
        for out, into in itertools.product(fans, repeat=2):
            self.check((("a", "b"), (), (("x", "a", "a", out, into),)))
            self.check((("a", "b"), (("b", "a"),), (("x", "a", "a", out, into), ("y", "b", "a", into, out))))

    def test_as_many_rules_and_doors_as_can_be(self):
        rules = tuple(pair for pair in itertools.permutations("abcdef", 2) if pair[0] < pair[1] and pair != ("e", "f"))[:10]
        for out, into in itertools.product(((4, 4), (4, None), (0, 1), (1, 1)), repeat=2):
            doors = tuple((name, "abcdef"[at], "fedcba"[at], out, into) for at, name in enumerate("pqrstu"))
            self.check((tuple("abcdef"), rules, doors))


if __name__ == "__main__":
    unittest.main()
