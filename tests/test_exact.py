"""[13]: fans that hold in every house that ends."""

import itertools
import unittest

from fankinds.bare import bare_by, living, right_bare
from fankinds.exact import fan_paper, fans, right_fan_paper
from fankinds.rings import product, rings_of
from fankinds.steps import steps_of
from tests.samples import (all_tuples, as_lists, balanced_books, can_have_rooms, nested, odd_things, of_other_make, plain_rings,
                           plain_steps, random_books, turns_about, wheel_books)

ANY = (0, None)
# Steps: 0 a b (rule), 1 b a (w out, 1), 2 a b (w into, 4), 3 c c (x out, 1/2), 4 d d (z out, 3).
BOOK = (
    ("a", "b", "c", "d"),
    (("a", "b"),),
    (
        ("w", "b", "a", (2, 4), (1, 2)), ("x", "c", "c", (2, 2), (0, 1)), ("y", "a", "c", (0, 3), ANY),
        ("z", "d", "d", (1, None), (0, 3)),
    ),
)
SHRINK = ("ring", (3,))


def plainly_held(book):
    """[13] told once more, by all rings and by numbers that stand."""
    steps = plain_steps(book)
    even = {steps[at][3] for ring, worth in plain_rings(book).items() if worth == 1 for at in ring}
    alive = [kind for kind in book[0] if can_have_rooms(book, kind)]
    told = []
    for name, start, goal, out, into in book[2]:
        if start in alive and goal in alive:
            if ("out", name) in even:
                out, into = (out[0], out[0]), (into[1], into[1])
            elif ("into", name) in even:
                out, into = (out[1], out[1]), (into[0], into[0])
        else:
            out, into = out if goal in alive else (0, 0), into if start in alive else (0, 0)
        told.append((name, out, into))
    return tuple(told)


class Fans(unittest.TestCase):
    def test_ordinary(self):
        self.assertEqual(fans(BOOK), (
            ("w", (2, 2), (2, 2)), ("x", (0, 0), (0, 0)), ("y", (0, 0), ANY), ("z", (1, None), (0, 3))))

    def test_by_the_into_step(self):
        book = (("a", "b"), (("a", "b"),), (("x", "a", "b", (1, 3), (3, None)),))
        self.assertEqual(fans(book), (("x", (3, 3), (3, 3)),))
        book = (("a", "b"), (("a", "b"),), (("x", "a", "b", (1, 3), (2, None)),))
        self.assertEqual(fans(book), (("x", (1, 3), (2, None)),))

    def test_a_door_from_a_kind_to_itself(self):
        for out, into, held in (((2, 4), (1, 2), ((2, 2), (2, 2))), ((1, 3), (3, 4), ((3, 3), (3, 3))), ((1, 2), (1, 2), None),
                                ((2, 2), (2, 2), ((2, 2), (2, 2))), ((3, 4), (1, 2), ((0, 0), (0, 0))),
                                ((2, None), (0, 2), ((2, 2), (2, 2)))):
            book = (("a",), (), (("x", "a", "a", out, into),))
            self.assertEqual(fans(book), (("x",) + (held or (out, into)),))

    def test_bare_ends(self):
        loop = ("x", "b", "b", (2, 2), (1, 1))
        for out, into in (((0, 3), (1, 2)), (ANY, ANY), ((0, 1), (4, 4))):
            book = (("a", "b"), (), (loop, ("y", "a", "b", out, into)))
            self.assertEqual(fans(book)[1], ("y", (0, 0), into))
            book = (("a", "b"), (), (loop, ("y", "b", "a", into, out)))
            self.assertEqual(fans(book)[1], ("y", into, (0, 0)))
            book = (("a", "b"), (("a", "b"),), (loop, ("y", "b", "a", into, out)))
            self.assertEqual(fans(book)[1], ("y", (0, 0), (0, 0)))

    def test_a_ring_of_product_1_between_bare_kinds(self):
        doors = (("x", "a", "a", (2, 2), (1, 1)), ("y", "a", "b", (1, 2), (2, None)))
        book = (("a", "b"), (("a", "b"), ("b", "a")), doors)
        self.assertEqual(fans(book), (("x", (0, 0), (0, 0)), ("y", (0, 0), (0, 0))))

    def test_without_doors(self):
        self.assertEqual(fans((("a",), (), ())), ())

    def test_against_a_plain_search(self):
        seen = set()
        for book in [BOOK] + random_books(151, 250) + balanced_books(152, 300) + wheel_books(153, 8):
            told = fans(book)
            self.assertTrue(all_tuples(told))
            self.assertEqual(told, plainly_held(book), book)
            for (name, out, into), door in zip(told, book[2]):
                seen.add((door[1] in living(book), door[2] in living(book), (out, into) == door[3:]))
        self.assertEqual(seen, {(True, True, True), (True, True, False), (True, False, False), (False, True, False),
                                (False, False, False)})


class FanPaper(unittest.TestCase):
    def test_ordinary(self):
        word, ring = fan_paper(BOOK, "w")
        self.assertEqual((word, sorted(ring), ring[0]), ("ring", [0, 1], 1))
        for name in "xy":
            word, paper = fan_paper(BOOK, name)
            self.assertEqual((word, bare_by(BOOK, paper)), ("bare", ("c",)))
        self.assertIsNone(fan_paper(BOOK, "z"))

    def test_of_each_of_the_three_kinds(self):
        seen = {"bare": 0, "ring": 0, None: 0}
        for book in [BOOK] + random_books(154, 150) + balanced_books(155, 200) + wheel_books(156, 8):
            alive = living(book)
            steps = plain_steps(book)
            even = {steps[at][3] for ring, worth in plain_rings(book).items() if worth == 1 for at in ring}
            for door in book[2]:
                paper = fan_paper(book, door[0])
                self.assertTrue(all_tuples(paper))
                bare = door[1] not in alive or door[2] not in alive
                on_ring = ("out", door[0]) in even or ("into", door[0]) in even
                self.assertEqual(paper and paper[0], "bare" if bare else "ring" if on_ring else None)
                self.assertIs(right_fan_paper(book, door[0], paper), paper is not None)
                seen[paper and paper[0]] += 1
                if bare:
                    self.assertIs(right_bare(book, paper[1]), True)
                    self.assertTrue(set(bare_by(book, paper[1])) & {door[1], door[2]})
                elif paper:
                    self.assertEqual(steps_of(book)[paper[1][0]][4][1:], (door[0],))
                    self.assertEqual(product(book, paper[1]), (1, 1))
        self.assertGreater(min(seen.values()), 100)


class RightFanPaper(unittest.TestCase):
    def yes(self, name, thing, book=BOOK):
        self.assertIs(right_fan_paper(book, name, thing), True, thing)

    def no(self, name, thing, book=BOOK):
        self.assertIs(right_fan_paper(book, name, thing), False, repr(thing)[:200])

    def test_bare_papers(self):
        for name in "wxyz":
            for paper in ((SHRINK,), (SHRINK, SHRINK), (SHRINK, ("follow", "c", ("out", "x")))):
                self.assertIs(right_fan_paper(BOOK, name, ("bare", paper)), name in "xy")
            self.no(name, ("bare", ()))

    def test_papers_that_make_either_end_bare(self):
        book = (("a", "b", "c"), (), (("w", "a", "b", ANY, ANY), ("x", "a", "a", (2, 2), (0, 1)), ("y", "b", "b", (2, 2), (0, 1)),
                                      ("z", "c", "c", (2, 2), (0, 1))))
        at = {step[4]: number for number, step in enumerate(steps_of(book))}
        rings = {name: ("ring", (at[("out", name)],)) for name in "xyz"}
        for name, many in itertools.product("wxyz", range(4)):
            for some in itertools.permutations("xyz", many):
                paper = tuple(rings[other] for other in some)
                ends = {"w": "xy", "x": "x", "y": "y", "z": "z"}[name]
                self.assertIs(right_fan_paper(book, name, ("bare", paper)), any(end in some for end in ends))

    def test_wrong_bare_papers(self):
        for paper in ((("ring", (4,)),), (("ring", (0, 1)),), (SHRINK, ("follow", "a", ("out", "y"))), (("follow", "c", ("out", "x")),),
                      [SHRINK], SHRINK, ((SHRINK,),), None, "bare", (3,), ("bare", (SHRINK,))):
            self.no("x", ("bare", paper))

    def test_rings(self):
        self.yes("w", ("ring", (1, 0)))
        self.no("w", ("ring", (0, 1)))
        self.no("w", ("ring", (0, 2)))
        self.no("w", ("ring", (2, 1)))
        self.no("w", ("ring", (1, 2)))
        self.no("z", ("ring", (4,)))
        self.no("x", ("ring", (3,)))
        for name in "xyz":
            self.no(name, ("ring", (1, 0)))

    def test_all_rings_of_many_books(self):
        seen = {True: 0, False: 0}
        for book in random_books(157, 40) + balanced_books(158, 60, kinds=4):
            steps = plain_steps(book)
            for ring in rings_of(book)[:40]:
                for turned, door in itertools.product(turns_about(ring), book[2]):
                    right = product(book, turned) == (1, 1) and steps[turned[0]][3][1:] == (door[0],)
                    self.assertIs(right_fan_paper(book, door[0], ("ring", turned)), right)
                    seen[right] += 1
        self.assertGreater(min(seen.values()), 100)

    def test_a_ring_of_bare_kinds(self):
        doors = (("x", "a", "a", (2, 2), (1, 1)), ("y", "a", "b", (1, 2), (2, None)))
        book = (("a", "b"), (("a", "b"), ("b", "a")), doors)
        step = [at for at, told in enumerate(steps_of(book)) if told[4] == ("into", "y")][0]
        self.assertEqual(living(book), ())
        self.yes("y", ("ring", (step, 0)), book)

    def test_no_rings(self):
        for ring in ((), (1,), (0,), (1, 0, 1, 0), (1, 0, 0), (1, 9), (1, -5), (True, 0), (1, False), [1, 0], "10", None, True, 1,
                     {}, ((1, 0),), ("ring", (1, 0))):
            self.no("w", ("ring", ring))

    def test_other_words_and_lengths(self):
        for thing in (None, (), ("ring",), ("bare",), ("ring", (1, 0), ()), ("rings", (1, 0)), ("even", (1, 0)), ((1, 0), "ring"),
                      ["ring", (1, 0)], (1, 0), "ring", ("bare", (1, 0)), (("ring", (1, 0)),), (None, (1, 0)), ("", (1, 0))):
            self.no("w", thing)
        for thing in (("ring", (SHRINK,)), SHRINK, (SHRINK,), ("bare", SHRINK), ("bare", (SHRINK,), ()), ["bare", (SHRINK,)]):
            self.no("x", thing)

    def test_odd_things(self):
        for name, thing in itertools.product("wxyz", odd_things()):
            self.no(name, thing)
            self.no(name, ("bare", thing))
            self.no(name, ("ring", thing))
            self.no(name, (thing, (1, 0)) if thing != "ring" else None)
            self.no(name, ("bare", (SHRINK, thing)))
            self.no(name, ("ring", (1, thing)) if thing != 0 else None)

    def test_odd_parts_at_any_depth(self):
        for name, paper in (("w", ("ring", (1, 0))), ("y", ("bare", (SHRINK, ("follow", "c", ("out", "x")))))):
            self.yes(name, paper)
            for path, changed in of_other_make(paper):
                self.no(name, changed)
            for changed in as_lists(paper):
                self.no(name, changed)
        self.no("w", nested(lambda thing: ("bare", thing), 39))
        self.no("w", nested(lambda thing: ("ring", (thing,)), 19))
        self.yes("x", ("bare", (SHRINK,) * 9000))


if __name__ == "__main__":
    unittest.main()
