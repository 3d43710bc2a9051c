"""[9]: steps."""

import unittest
from math import gcd

from fankinds.steps import steps_of
from tests.samples import plain_steps, random_books

ANY = (0, None)


def one_door(out, into, start="a", goal="b"):
    return (("a", "b"), (), (("x", start, goal, out, into),))


class Steps(unittest.TestCase):
    def test_none(self):
        self.assertEqual(steps_of((("a",), (), ())), ())
        self.assertEqual(steps_of(one_door(ANY, ANY)), ())

    def test_rules_in_order(self):
        book = (("a", "b", "c"), (("a", "b"), ("b", "a"), ("c", "a")), ())
        self.assertEqual(steps_of(book), (
            ("a", "b", 1, 1, ("rule",)), ("b", "a", 1, 1, ("rule",)), ("c", "a", 1, 1, ("rule",))))

    def test_out_and_into_of_a_door(self):
        self.assertEqual(steps_of(one_door((2, 3), (1, 4))), (
            ("a", "b", 2, 1, ("out", "x")), ("b", "a", 3, 1, ("into", "x"))))
        self.assertEqual(steps_of(one_door((3, 4), (3, 4))), (
            ("a", "b", 4, 3, ("out", "x")), ("b", "a", 4, 3, ("into", "x"))))

    def test_only_where_high_is_told_and_low_is_above_0(self):
        self.assertEqual(steps_of(one_door((1, None), (0, 2))), (("a", "b", 2, 1, ("out", "x")),))
        self.assertEqual(steps_of(one_door((0, 2), (1, None))), (("b", "a", 2, 1, ("into", "x")),))
        self.assertEqual(steps_of(one_door((1, None), (1, None))), ())
        self.assertEqual(steps_of(one_door((0, 1), (0, 1))), ())
        self.assertEqual(steps_of(one_door((1, 2), ANY)), ())
        self.assertEqual(steps_of(one_door(ANY, (1, 2))), ())

    def test_every_pair_of_fans(self):
        fans = [(low, high) for low in range(5) for high in [None] + list(range(max(1, low), 5))]
        for out in fans:
            for into in fans:
                told = steps_of(one_door(out, into))
                self.assertEqual(len(told), (out[0] > 0 and into[1] is not None) + (into[0] > 0 and out[1] is not None))
                for one, other, n, d, why in told:
                    near, far = (out, into) if why == ("out", "x") else (into, out)
                    self.assertEqual(why[1], "x")
                    self.assertEqual((one, other), ("a", "b") if why[0] == "out" else ("b", "a"))
                    self.assertEqual(n * near[0], d * far[1])
                    self.assertEqual(gcd(n, d), 1)
                    self.assertGreater(d, 0)

    def test_without_a_common_divisor(self):
        self.assertEqual(steps_of(one_door((4, 4), (2, 2))), (
            ("a", "b", 1, 2, ("out", "x")), ("b", "a", 2, 1, ("into", "x"))))
        self.assertEqual(steps_of(one_door((3, 3), (3, 3)))[0][2:4], (1, 1))
        self.assertEqual(steps_of(one_door((4, 4), (3, 3)))[0][2:4], (3, 4))
        self.assertEqual(steps_of(one_door((2, 2), (4, 4)))[0][2:4], (2, 1))

    def test_a_door_from_a_kind_to_itself(self):
        self.assertEqual(steps_of(one_door((2, 2), (1, 3), "b", "b")), (
            ("b", "b", 3, 2, ("out", "x")), ("b", "b", 2, 1, ("into", "x"))))

    def test_many_doors_between_two_kinds(self):
        doors = (
            ("s", "a", "b", (1, 1), (1, 1)), ("t", "a", "b", (2, 2), (0, 1)), ("u", "b", "a", (1, None), (1, 2)),
            ("v", "a", "b", ANY, ANY), ("w", "b", "a", (0, 3), (2, None)), ("x", "a", "b", (1, 1), (1, 1)))
        book = (("a", "b"), (("a", "b"), ("b", "a")), doors)
        self.assertEqual(steps_of(book), (
            ("a", "b", 1, 1, ("rule",)), ("b", "a", 1, 1, ("rule",)),
            ("a", "b", 1, 1, ("out", "s")), ("b", "a", 1, 1, ("into", "s")),
            ("a", "b", 1, 2, ("out", "t")),
            ("b", "a", 2, 1, ("out", "u")),
            ("a", "b", 3, 2, ("into", "w")),
            ("a", "b", 1, 1, ("out", "x")), ("b", "a", 1, 1, ("into", "x"))))

    def test_against_a_plain_reading(self):
        for book in random_books(21, 400):
            plain = tuple((one, other, worth.numerator, worth.denominator, why) for one, other, worth, why in plain_steps(book))
            self.assertEqual(steps_of(book), plain)


if __name__ == "__main__":
    unittest.main()
