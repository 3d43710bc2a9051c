"""[3], [5], [6]: names, fans, lots."""

import string
import unittest

from fankinds.bounds import FAN
from fankinds.forms import is_fan, is_lot, is_name
from tests.samples import nested, odd_things, subsets

BOOK = (("a", "b", "cc", "dddddddd"), (("a", "b"),), (("x", "a", "b", (0, None), (0, None)),))


class Names(unittest.TestCase):
    def test_lengths(self):
        for many in range(12):
            with self.subTest(many=many):
                self.assertIs(is_name("q" * many), 1 <= many <= 8)
        self.assertIs(is_name("abcdefgh"), True)
        self.assertIs(is_name("stuvwxyz"), True)
        self.assertIs(is_name("abcdefghi"), False)
        self.assertIs(is_name("a" * 4000), False)

    def test_each_sign(self):
        for sign in [chr(code) for code in range(32, 127)] + ["\n"]:
            with self.subTest(sign=sign):
                small = sign in string.ascii_lowercase
                self.assertIs(is_name(sign), small)
                self.assertIs(is_name("a" + sign), small)
                self.assertIs(is_name(sign + "a"), small)
                self.assertIs(is_name("ab" + sign + "cd"), small)

    def test_no_texts(self):
        names = ("a", "ab", "out", "rule", "ring")
        for thing in odd_things():
            with self.subTest(thing=repr(thing)[:60]):
                self.assertIs(is_name(thing), isinstance(thing, str) and thing in names)
        for thing in (["a"], ("a",), {"a": "a"}, ["a", "b"], ("a", "b")):
            self.assertIs(is_name(thing), False)


class Fans(unittest.TestCase):
    def test_every_low_and_high(self):
        for low in range(-2, FAN + 3):
            for high in range(-2, FAN + 3):
                with self.subTest(low=low, high=high):
                    self.assertIs(is_fan((low, high)), 0 <= low <= FAN and 1 <= high <= FAN and low <= high)

    def test_any_number(self):
        for low in range(-2, FAN + 3):
            with self.subTest(low=low):
                self.assertIs(is_fan((low, None)), 0 <= low <= FAN)

    def test_edges(self):
        for fan in ((0, 1), (0, 4), (1, 1), (4, 4), (0, None), (4, None)):
            self.assertIs(is_fan(fan), True)
        for fan in ((0, 0), (2, 1), (4, 5), (5, 5), (5, None), (-1, 1), (-1, None), (None, None), (None, 1)):
            self.assertIs(is_fan(fan), False)

    def test_truths_are_no_numbers(self):
        for fan in ((True, True), (True, 1), (1, True), (False, 1), (False, None), (True, None), (0, True), (0, False),
                    (False, False), (1, False)):
            with self.subTest(fan=fan):
                self.assertIs(is_fan(fan), False)

    def test_other_makes(self):
        for thing in ([0, 1], [1, None], (), (1,), (1, 2, 3), (1, 2, None), ((1, 2),), ("1", "2"), ("1", None), "12",
                      {0: 1, 1: 2}, {1, 2}, None, True, 1, ((1,), 2), (1, (2,)), (1, [2]), ([1], 2), (1, {}), ({}, 1)):
            with self.subTest(thing=thing):
                self.assertIs(is_fan(thing), False)

    def test_odd_things(self):
        fans = [(0, 1), (1, None)]
        for thing in odd_things():
            with self.subTest(thing=repr(thing)[:60]):
                self.assertIs(is_fan(thing), isinstance(thing, tuple) and thing in fans)
                for low in (0, 1, 4):
                    is_high = thing is None or thing.__class__ is int and max(1, low) <= thing <= 4
                    self.assertIs(is_fan((low, thing)), is_high)
                for high in (None, 4):
                    is_low = thing.__class__ is int and 0 <= thing <= 4
                    self.assertIs(is_fan((thing, high)), is_low)


class Lots(unittest.TestCase):
    def test_rising_kinds(self):
        for lot in subsets(BOOK[0]):
            with self.subTest(lot=lot):
                self.assertIs(is_lot(BOOK, lot), lot != ())

    def test_not_rising(self):
        for lot in (("a", "a"), ("b", "a"), ("a", "cc", "b"), ("a", "b", "b"), ("dddddddd", "a"), ("a", "b", "cc", "a")):
            with self.subTest(lot=lot):
                self.assertIs(is_lot(BOOK, lot), False)

    def test_not_of_the_book(self):
        for lot in (("c",), ("a", "c"), ("x",), ("a", "x"), ("A",), ("",), ("ab",), ("a", "b", "e"), ("d",)):
            with self.subTest(lot=lot):
                self.assertIs(is_lot(BOOK, lot), False)

    def test_other_makes(self):
        for thing in (["a"], ["a", "b"], [], "a", "ab", "", None, True, False, 0, {"a": True}, {}, (("a",),), (["a"],),
                      ("a", ["b"]), ("a", None), (None,), (True,), (0,), ("a", 1), (1, "a"), ({},), (("a", "b"),)):
            with self.subTest(thing=thing):
                self.assertIs(is_lot(BOOK, thing), False)

    def test_odd_things(self):
        lots = [("a",), ("a", "b")]
        for thing in odd_things():
            with self.subTest(thing=repr(thing)[:60]):
                self.assertIs(is_lot(BOOK, thing), isinstance(thing, tuple) and thing in lots)
                self.assertIs(is_lot(BOOK, ("a", thing)), False)
                self.assertIs(is_lot(BOOK, (thing, "cc")), isinstance(thing, str) and thing == "a")

    def test_by_the_books_kinds(self):
        other = (("e",), (), ())
        self.assertIs(is_lot(other, ("e",)), True)
        self.assertIs(is_lot(other, ("a",)), False)
        self.assertIs(is_lot(BOOK, ("e",)), False)


class OfAnything(unittest.TestCase):
    def test_deep_things(self):
        for make in (lambda thing: [thing], lambda thing: (thing,), lambda thing: {"a": thing}, lambda thing: ("a", thing)):
            thing = nested(make, 40)
            self.assertIs(is_name(thing), False)
            self.assertIs(is_fan(thing), False)
            self.assertIs(is_lot(BOOK, thing), False)

    def test_wide_things(self):
        for part in (None, True, 7, "a", (), [], {}):
            for thing in ((part,) * 39999, [part] * 39999):
                self.assertIs(is_name(thing), False)
                self.assertIs(is_fan(thing), False)
                self.assertIs(is_lot(BOOK, thing), False)


if __name__ == "__main__":
    unittest.main()
