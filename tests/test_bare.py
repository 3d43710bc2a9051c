"""[11]: bare kinds and their papers."""

import itertools
import random
import unittest

from fankinds.bare import bare_by, bare_paper, living, right_bare
from fankinds.rings import product, rings_of
from fankinds.steps import steps_of
from tests.samples import (as_lists, balanced_books, can_have_rooms, nested, odd_things, of_other_make, plain_product,
                           plain_rings, plain_steps, random_books, turns_about)

ANY = (0, None)
# Steps: 0 a b, 1 b a, 2 c a, 3 d e (rules), 4 a b (w out, 1/2), 5 b a (w into, 2), 6 f f (x out, 2).
BOOK = (
    ("a", "b", "c", "d", "e", "f"),
    (("a", "b"), ("b", "a"), ("c", "a"), ("d", "e")),
    (
        ("w", "a", "b", (2, 2), (1, 1)), ("x", "f", "f", (1, None), (0, 2)),
        ("y", "d", "b", (1, None), ANY), ("z", "c", "e", ANY, (1, None)),
    ),
)
RING = ("ring", (4, 1))
C_BY_RULE = ("follow", "c", ("rule", "c", "a"))
D_BY_OUT = ("follow", "d", ("out", "y"))
E_BY_INTO = ("follow", "e", ("into", "z"))
WHOLE = (RING, C_BY_RULE, D_BY_OUT, E_BY_INTO)


class RightBare(unittest.TestCase):
    def yes(self, *entries):
        self.assertIs(right_bare(BOOK, entries), True, entries)

    def no(self, *entries):
        self.assertIs(right_bare(BOOK, entries), False, repr(entries)[:200])

    def test_none(self):
        self.yes()

    def test_rings(self):
        self.yes(RING)
        self.yes(("ring", (1, 4)))
        self.yes(RING, RING)

    def test_rings_of_product_1_or_above(self):
        for ring in rings_of(BOOK):
            for turned in turns_about(ring):
                n, d = product(BOOK, turned)
                self.assertIs(right_bare(BOOK, (("ring", turned),)), n < d)
        self.no(("ring", (4, 5)))
        self.no(("ring", (0, 1)))
        self.no(("ring", (0, 5)))
        self.no(("ring", (6,)))

    def test_no_rings(self):
        for ring in ((), (4,), (1,), (4, 1, 4, 1), (4, 2), (4, 7), (4, -1), (4, True), [4, 1], "41", None, True, 4, {}, ((4, 1),)):
            self.no(("ring", ring))

    def test_follow(self):
        self.yes(*WHOLE)
        self.yes(RING, C_BY_RULE)
        self.yes(RING, D_BY_OUT)
        self.yes(RING, C_BY_RULE, E_BY_INTO)
        self.yes(RING, D_BY_OUT, C_BY_RULE, E_BY_INTO)

    def test_made_bare_again(self):
        self.yes(RING, RING, C_BY_RULE, C_BY_RULE, RING)
        self.yes(RING, ("follow", "a", ("rule", "a", "b")))
        self.yes(RING, ("follow", "b", ("rule", "b", "a")))
        self.yes(RING, ("follow", "a", ("out", "w")), ("follow", "b", ("into", "w")))
        self.yes(*(WHOLE + WHOLE))

    def test_what_lies_behind(self):
        self.no(C_BY_RULE)
        self.no(C_BY_RULE, RING)
        self.no(D_BY_OUT, RING)
        self.no(RING, E_BY_INTO)
        self.no(RING, E_BY_INTO, C_BY_RULE)
        self.no(RING, D_BY_OUT, E_BY_INTO, C_BY_RULE)
        for order in itertools.permutations(WHOLE):
            at = order.index
            is_right = at(RING) == 0 and at(C_BY_RULE) < at(E_BY_INTO)
            self.assertIs(right_bare(BOOK, order), is_right)

    def test_an_entry_is_not_ahead_of_itself(self):
        self.no(("follow", "f", ("out", "x")))
        self.no(("follow", "a", ("rule", "a", "b")))
        loop = (("a",), (), (("x", "a", "a", (2, 2), (1, 1)),))
        self.assertIs(right_bare(loop, (("ring", (0,)), ("follow", "a", ("out", "x")), ("follow", "a", ("into", "x")))), True)
        self.assertIs(right_bare(loop, (("follow", "a", ("out", "x")), ("ring", (0,)))), False)

    def test_a_low_of_0(self):
        book = (BOOK[0], BOOK[1], BOOK[2][:2] + (("y", "d", "b", (0, 4), ANY), ("z", "c", "e", ANY, (0, 4))))
        self.assertIs(right_bare(book, (RING,)), True)
        self.assertIs(right_bare(book, (RING, D_BY_OUT)), False)
        self.assertIs(right_bare(book, (RING, C_BY_RULE)), True)
        self.assertIs(right_bare(book, (RING, C_BY_RULE, E_BY_INTO)), False)

    def test_the_other_fan_tells_nothing(self):
        self.no(RING, C_BY_RULE, ("follow", "c", ("out", "z")))
        self.no(RING, C_BY_RULE, E_BY_INTO, ("follow", "c", ("out", "z")))
        self.no(RING, D_BY_OUT, ("follow", "b", ("into", "y")))

    def test_other_kinds_doors_rules(self):
        self.no(RING, ("follow", "d", ("rule", "c", "a")))
        self.no(RING, ("follow", "a", ("rule", "c", "a")))
        self.no(RING, ("follow", "c", ("rule", "c", "b")))
        self.no(RING, ("follow", "a", ("rule", "a", "c")))
        self.no(RING, C_BY_RULE, ("follow", "a", ("rule", "a", "c")))
        self.no(RING, ("follow", "d", ("rule", "d", "e")))
        self.no(RING, ("follow", "f", ("out", "x")))
        self.no(RING, ("follow", "c", ("out", "y")))
        self.no(RING, ("follow", "b", ("out", "y")))
        self.no(RING, ("follow", "d", ("into", "y")))
        self.no(RING, ("follow", "d", ("out", "v")))
        self.no(RING, ("follow", "d", ("out", "b")))
        self.no(RING, C_BY_RULE, ("follow", "e", ("out", "z")))
        self.no(RING, C_BY_RULE, ("follow", "c", ("into", "z")))
        self.no(RING, ("follow", "d", ("over", "y")))
        self.no(RING, ("follow", "c", ("out", "c", "a")))
        self.no(RING, ("follow", "c", ("rules", "c", "a")))
        self.no(RING, ("follows", "c", ("rule", "c", "a")))
        self.no(("rings", (4, 1)))
        self.no(("follow", (4, 1)))
        self.no(RING, ("ring", "c", ("rule", "c", "a")))

    def test_other_lengths(self):
        self.no(())
        self.no(("ring",))
        self.no(("ring", (4, 1), ()))
        self.no(RING, ("follow", "c"))
        self.no(RING, ("follow", "c", ("rule", "c", "a"), ()))
        self.no(RING, ("follow", "c", ("rule", "c")))
        self.no(RING, ("follow", "c", ("rule", "c", "a", "a")))
        self.no(RING, ("follow", "c", ("rule",)))
        self.no(RING, ("follow", "c", ()))
        self.no(RING, ("follow", "d", ("out",)))
        self.no(RING, ("follow", "d", ("out", "y", "y")))
        self.no(RING, ("follow", "c", ("rule", ("c", "a"))))

    def test_odd_things(self):
        for thing in odd_things():
            self.assertIs(right_bare(BOOK, thing), thing == () and isinstance(thing, tuple), repr(thing)[:60])
            self.no(thing)
            self.no(RING, thing)
            self.no(("ring", thing))
            self.no(RING, ("follow", thing, ("rule", "c", "a")))
            self.no(RING, ("follow", "c", thing))
            self.no(RING, ("follow", "c", ("rule", "c", thing)) if thing != "a" else None)
            self.no(RING, ("follow", "d", ("out", thing)))
            self.no(RING, ("follow", "d", (thing, "y")) if thing != "out" else None)

    def test_odd_parts_at_any_depth(self):
        for path, changed in of_other_make(WHOLE):
            self.assertIs(right_bare(BOOK, changed), path == () and changed == ())
        for changed in as_lists(WHOLE):
            self.assertIs(right_bare(BOOK, changed), False)
        self.assertIs(right_bare(BOOK, nested(lambda thing: (thing,), 40)), False)
        self.assertIs(right_bare(BOOK, WHOLE * 2000), True)
        self.assertIs(right_bare(BOOK, WHOLE * 2000 + ((),)), False)

    def test_papers_drawn_by_chance(self):
        rand = random.Random(51)
        seen = set()
        for book in random_books(52, 250, kinds=4, rules=4, doors=4, top=3):
            entries = some_entries(book)
            for _ in range(12):
                paper = tuple(rand.sample(entries, rand.randint(0, min(4, len(entries)))))
                told = right_bare(book, paper)
                self.assertIs(told, plain_bare(book, paper) is not None)
                seen.add((told, len(paper)))
                if told:
                    self.assertEqual(bare_by(book, paper), plain_bare(book, paper))
        self.assertLess({(told, many) for told in (True, False) for many in (1, 2, 3)}, seen)


def some_entries(book):
    """Entries of the form, right or not."""
    entries = [("ring", ring) for ring in plain_rings(book)]
    for kind in book[0]:
        entries += [("follow", kind, ("rule",) + rule) for rule in book[1]]
        entries += [("follow", kind, (side, door[0])) for door in book[2] for side in ("out", "into")]
    return entries


def plain_bare(book, paper):
    """The kinds that a paper of such entries makes bare, rising; None where it isn't right."""
    doors = {door[0]: door for door in book[2]}
    bare = set()
    for entry in paper:
        if entry[0] == "ring":
            if plain_product(plain_steps(book), entry[1]) >= 1:
                return None
            bare |= {plain_steps(book)[at][0] for at in entry[1]}
            continue
        kind, why = entry[1:]
        if why[0] == "rule":
            wants = [(why[1], why[2])]
        else:
            name, start, goal, out, into = doors[why[1]]
            ends, low = ((start, goal), out[0]) if why[0] == "out" else ((goal, start), into[0])
            wants = [ends] if low > 0 else []
        if not any(one == kind and other in bare for one, other in wants):
            return None
        bare.add(kind)
    return tuple(sorted(bare))


class BareBy(unittest.TestCase):
    def test_rising(self):
        self.assertEqual(bare_by(BOOK, ()), ())
        self.assertEqual(bare_by(BOOK, (RING,)), ("a", "b"))
        self.assertEqual(bare_by(BOOK, (("ring", (1, 4)),)), ("a", "b"))
        self.assertEqual(bare_by(BOOK, (RING, D_BY_OUT)), ("a", "b", "d"))
        self.assertEqual(bare_by(BOOK, (RING, D_BY_OUT, C_BY_RULE, C_BY_RULE)), ("a", "b", "c", "d"))
        self.assertEqual(bare_by(BOOK, WHOLE), ("a", "b", "c", "d", "e"))
        self.assertEqual(bare_by(BOOK, WHOLE + WHOLE), ("a", "b", "c", "d", "e"))


class BarePaper(unittest.TestCase):
    def test_ordinary(self):
        paper = bare_paper(BOOK)
        self.assertIs(right_bare(BOOK, paper), True)
        self.assertEqual(bare_by(BOOK, paper), ("a", "b", "c", "d", "e"))
        self.assertEqual(living(BOOK), ("f",))

    def test_none_and_all(self):
        nothing = (("a", "b"), (("a", "b"), ("b", "a")), ())
        self.assertEqual(bare_paper(nothing), ())
        self.assertEqual(living(nothing), ("a", "b"))
        loop = (("a",), (), (("x", "a", "a", (2, 2), (1, 1)),))
        self.assertEqual(bare_by(loop, bare_paper(loop)), ("a",))
        self.assertEqual(living(loop), ())

    def test_two_rings_apart(self):
        doors = (("x", "a", "a", (2, 2), (0, 1)), ("y", "c", "c", (0, 1), (2, 2)), ("z", "b", "b", (1, 1), (1, 1)))
        book = (("a", "b", "c"), (("a", "b"), ("c", "b")), doors)
        self.assertEqual(bare_by(book, bare_paper(book)), ("a", "c"))
        self.assertEqual(living(book), ("b",))

    def test_doors_with_any_number(self):
        doors = (("x", "a", "a", (2, 2), (1, 1)), ("y", "b", "a", (1, None), ANY), ("z", "a", "c", ANY, (1, None)))
        book = (("a", "b", "c", "d"), (), doors)
        self.assertEqual(bare_by(book, bare_paper(book)), ("a", "b", "c"))
        self.assertEqual(living(book), ("d",))

    def test_a_low_of_0_follows_nothing(self):
        doors = (("x", "a", "a", (2, 2), (1, 1)), ("y", "b", "a", (0, 4), ANY), ("z", "a", "c", ANY, (0, 4)))
        book = (("a", "b", "c"), (("a", "b"),), doors)
        self.assertEqual(living(book), ("b", "c"))

    def test_against_numbers_that_stand(self):
        seen = set()
        for book in random_books(53, 400) + random_books(54, 400, kinds=4, rules=3, doors=4) + balanced_books(55, 100):
            paper = bare_paper(book)
            self.assertIs(right_bare(book, paper), True)
            alive = tuple(kind for kind in book[0] if can_have_rooms(book, kind))
            self.assertEqual(living(book), alive, book)
            self.assertEqual(bare_by(book, paper), tuple(kind for kind in book[0] if kind not in alive))
            words = {entry[0] if entry[0] == "ring" else entry[2][0] for entry in paper}
            seen |= words
            seen.add((len(alive) > 0, len(alive) < len(book[0])))
        self.assertEqual(seen, {"ring", "rule", "out", "into", (True, True), (True, False), (False, True)})

    def test_rings_of_two_steps_and_more(self):
        lengths = set()
        for book in random_books(53, 400):
            lengths |= {len(entry[1]) for entry in bare_paper(book) if entry[0] == "ring"}
        self.assertLess({1, 2, 3}, lengths)


class Steps(unittest.TestCase):
    def test_the_samples_steps(self):
        self.assertEqual([step[:4] for step in steps_of(BOOK)], [
            ("a", "b", 1, 1), ("b", "a", 1, 1), ("c", "a", 1, 1), ("d", "e", 1, 1),
            ("a", "b", 1, 2), ("b", "a", 2, 1), ("f", "f", 2, 1)])


if __name__ == "__main__":
    unittest.main()
