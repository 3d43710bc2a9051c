"""[23], [25]: a hall's deeds, their refusals, and what it is asked."""

import copy
import itertools
import random
import unittest
from collections import Counter

from fankinds.begun import bar
from fankinds.books import is_book
from fankinds.errors import (BadBook, BadFan, BadLot, BadName, BadSide, Barred, FanError, Full, InUse, Long, NoDoor, NoKind, NoRoom,
                             NoRule, NothingBack, NoWay, Same, Taken, TooGreat)
from fankinds.finish import finished
from fankinds.halls import Hall
from fankinds.houses import is_house, wrong_in
from tests.plain_hall import PlainHall, Refused, random_deed
from tests.samples import all_tuples, mixed_books, odd_things, random_books

ANY = (0, None)
BOOK = (("a", "b", "c"), (("a", "b"),), (("x", "b", "c", (1, 2), (0, 2)), ("y", "c", "c", ANY, ANY)))
FREE = (("a", "b"), (), (("x", "a", "b", ANY, ANY),))


def stands_as(hall):
    """All that a hall is asked, once."""
    try:
        finish = hall.finish()
    except TooGreat as refusal:
        finish = refusal.bound
    lots = tuple(hall.lot(room) for room in hall.rooms())
    return (hall.book(), hall.house(), hall.rooms(), lots, hall.deeds(), hall.tries(), len(hall), str(hall), finish)


def told_by(ask, *things):
    """What is told, or of a refusal the class's name and its field."""
    try:
        return ("told", ask(*things))
    except FanError as refusal:
        return (refusal.__class__.__name__,) + tuple(part for name, part in vars(refusal).items() if name != "word")


class Halls(unittest.TestCase):
    def refused(self, hall, made, *deed, **fields):
        """The deed is refused with that class and its field, and all is as ahead."""
        ahead = stands_as(hall)
        kept = copy.deepcopy(deed)
        with self.assertRaises(made) as caught:
            getattr(hall, deed[0])(*deed[1:])
        self.assertIs(caught.exception.__class__, made, deed)
        for name, part in fields.items():
            self.assertEqual(getattr(caught.exception, name), part)
            self.assertIs(getattr(caught.exception, name).__class__, part.__class__)
        self.assertEqual(stands_as(hall), ahead)
        self.assertEqual(repr(deed), repr(kept))

    def done(self, hall, *deed):
        many = len(hall)
        told = getattr(hall, deed[0])(*deed[1:])
        self.assertEqual(len(hall), many + 1)
        self.assertEqual(hall.deeds()[-1], deed)
        self.assertTrue(is_book(hall.book()))
        self.assertTrue(is_house(hall.book(), hall.house()))
        if deed[0] != "put":
            self.assertIsNone(told)
        return told


class Made(Halls):
    def test_of_a_book(self):
        for book in random_books(301, 20) + [BOOK]:
            hall = Hall(book)
            self.assertEqual(hall.book(), book)
            self.assertEqual((hall.house(), hall.rooms(), hall.deeds(), hall.tries(), len(hall)), (((), ()), (), (), (), 0))
            self.assertEqual(hall.finish(), ((), ()))
            self.assertEqual(str(hall), f"{len(book[0])} {len(book[1])} {len(book[2])} 0 0")

    def test_of_anything_else(self):
        for thing in odd_things() + [list(BOOK), BOOK[:2], BOOK + ((),), (("b", "a"), (), ()), Hall(BOOK)]:
            self.assertRaises(BadBook, Hall, thing)


    def test_each_method_stands_in_the_class_itself(self):
        deeds = "new_kind drop_kind new_rule drop_rule new_door drop_door set_fan put strike tie untie back tried tries".split()
        for name in deeds + "book house rooms lot deeds finish twin __len__ __eq__ __str__ __init__".split():
            self.assertIn(name, vars(Hall))


class Kinds(Halls):
    def test_new_kind(self):
        hall = Hall(FREE)
        for name in ("c", "aa", "abcdefgh", "x"):
            self.done(hall, "new_kind", name)
        self.assertEqual(hall.book(), (("a", "aa", "abcdefgh", "b", "c", "x"),) + FREE[1:])

    def test_new_kind_refused(self):
        hall = Hall(FREE)
        for name in ("", "A", "abcdefghi", "a b", "a1", None, True, 0, ("a",), ["a"], {"a": 1}, "b ", "a\n"):
            self.refused(hall, BadName, "new_kind", name)
        self.refused(hall, Taken, "new_kind", "a", thing="a")
        for name in "cdef":
            self.done(hall, "new_kind", name)
        self.refused(hall, Full, "new_kind", "g", bound=6)
        self.refused(hall, Taken, "new_kind", "f", thing="f")
        self.refused(hall, BadName, "new_kind", "F")

    def test_drop_kind(self):
        hall = Hall((("a", "b", "c"), (), ()))
        self.done(hall, "drop_kind", "b")
        self.done(hall, "drop_kind", "a")
        self.assertEqual(hall.book(), (("c",), (), ()))
        self.refused(hall, InUse, "drop_kind", "c")
        self.refused(hall, NoKind, "drop_kind", "a", name="a")

    def test_drop_kind_refused(self):
        book = (("a", "b", "c", "d", "e", "f"), (("a", "b"),), (("x", "c", "d", ANY, ANY),))
        hall = Hall(book)
        for thing in odd_things():
            if thing != "a":
                self.refused(hall, NoKind, "drop_kind", thing, name=thing)
        self.done(hall, "put", ("e",))
        for kind in "abcde":
            self.refused(hall, InUse, "drop_kind", kind)
        self.done(hall, "drop_kind", "f")
        self.done(hall, "strike", 0)
        self.done(hall, "drop_kind", "e")
        self.done(hall, "drop_door", "x")
        self.done(hall, "drop_kind", "d")
        self.done(hall, "drop_kind", "c")
        self.refused(hall, InUse, "drop_kind", "b")

    def test_a_kind_that_a_room_only_comes_to_be_of(self):
        hall = Hall(FREE)
        self.done(hall, "put", ("b",))
        self.done(hall, "tie", "x", 0, 0)
        self.assertEqual(hall.lot(0), ("b",))
        self.refused(hall, InUse, "drop_kind", "a")


class Rules(Halls):
    def test_new_rule(self):
        hall = Hall((("a", "b", "c"), (), ()))
        self.done(hall, "new_rule", "b", "a")
        self.done(hall, "new_rule", "a", "c")
        self.done(hall, "new_rule", "a", "b")
        self.assertEqual(hall.book()[1], (("a", "b"), ("a", "c"), ("b", "a")))

    def test_new_rule_refused(self):
        hall = Hall((tuple("abcdef"), (("a", "b"),), ()))
        for thing in odd_things():
            if thing != "a":
                self.refused(hall, NoKind, "new_rule", thing, "b", name=thing)
                self.refused(hall, NoKind, "new_rule", "b", thing, name=thing)
        self.refused(hall, NoKind, "new_rule", "p", "q", name="p")
        self.refused(hall, NoKind, "new_rule", "p", "p", name="p")
        self.refused(hall, Same, "new_rule", "a", "a")
        self.refused(hall, Taken, "new_rule", "a", "b", thing=("a", "b"))
        pairs = [pair for pair in itertools.permutations("abcdef", 2) if pair != ("a", "b")]
        for low, high in pairs[:9]:
            self.done(hall, "new_rule", low, high)
        self.refused(hall, Full, "new_rule", "f", "a", bound=10)
        self.refused(hall, Taken, "new_rule", "a", "b", thing=("a", "b"))
        self.refused(hall, Same, "new_rule", "f", "f")
        self.refused(hall, NoKind, "new_rule", "f", "g", name="g")

    def test_drop_rule(self):
        hall = Hall((("a", "b", "c"), (("a", "b"), ("b", "c")), ()))
        for thing in odd_things() + ["c", ("a", "b")]:
            self.refused(hall, NoRule, "drop_rule", thing, thing)
            if thing != "b":
                self.refused(hall, NoRule, "drop_rule", "a", thing)
            if thing != "a":
                self.refused(hall, NoRule, "drop_rule", thing, "b")
        self.done(hall, "drop_rule", "a", "b")
        self.refused(hall, NoRule, "drop_rule", "a", "b")
        self.assertEqual(hall.book()[1], (("b", "c"),))


class Doors(Halls):
    def test_new_door(self):
        hall = Hall((("a", "b"), (), ()))
        self.done(hall, "new_door", "z", "a", "b", (1, 2), ANY)
        self.done(hall, "new_door", "a", "b", "b", ANY, (0, 4))
        self.assertEqual(hall.book()[2], (("a", "b", "b", ANY, (0, 4)), ("z", "a", "b", (1, 2), ANY)))

    def test_new_door_refused(self):
        hall = Hall(FREE)
        for name in ("", "A", "abcdefghi", None, True, 0, ("y",), ["y"], {}):
            self.refused(hall, BadName, "new_door", name, "q", "q", None, None)
        self.refused(hall, Taken, "new_door", "x", "q", "q", None, None, thing="x")
        for thing in odd_things():
            if thing not in ("a",):
                self.refused(hall, NoKind, "new_door", "y", thing, "q", None, None, name=thing)
                self.refused(hall, NoKind, "new_door", "y", "a", thing, None, None, name=thing)
            if thing.__class__ is not tuple or thing not in ((1, None), (0, 1)):
                self.refused(hall, BadFan, "new_door", "y", "a", "b", thing, thing, side="out")
                self.refused(hall, BadFan, "new_door", "y", "a", "b", ANY, thing, side="into")
        for name in "pqrst":
            self.done(hall, "new_door", name, "a", "b", ANY, ANY)
        self.refused(hall, Full, "new_door", "u", "a", "b", ANY, ANY, bound=6)
        self.refused(hall, BadFan, "new_door", "u", "a", "b", ANY, (0, 0), side="into")

    def test_fans_up_to_their_bounds(self):
        for low, high in itertools.product(range(-1, 7), [None] + list(range(-1, 7))):
            right = 0 <= low <= 4 and (high is None or max(1, low) <= high <= 4)
            hall = Hall(FREE)
            for side in ("out", "into"):
                if right:
                    self.done(hall, "set_fan", "x", side, (low, high))
                    self.done(hall, "set_fan", "x", side, ANY)
                else:
                    self.refused(hall, BadFan, "set_fan", "x", side, (low, high), side=side)

    def test_drop_door(self):
        hall = Hall(FREE)
        for thing in odd_things():
            self.refused(hall, NoDoor, "drop_door", thing, name=thing)
        self.done(hall, "put", ("a", "b"))
        self.done(hall, "tie", "x", 0, 0)
        self.refused(hall, InUse, "drop_door", "x")
        self.done(hall, "untie", "x", 0, 0)
        self.done(hall, "drop_door", "x")
        self.refused(hall, NoDoor, "drop_door", "x", name="x")

    def test_set_fan(self):
        hall = Hall(BOOK)
        self.done(hall, "set_fan", "x", "out", (2, None))
        self.done(hall, "set_fan", "x", "into", (1, 3))
        self.done(hall, "set_fan", "x", "into", (1, 3))
        self.assertEqual(hall.book()[2], (("x", "b", "c", (2, None), (1, 3)), BOOK[2][1]))
        for thing in odd_things():
            self.refused(hall, NoDoor, "set_fan", thing, None, None, name=thing)
            if thing != "out":
                self.refused(hall, BadSide, "set_fan", "x", thing, None)
            if thing.__class__ is not tuple or thing not in ((1, None), (0, 1)):
                self.refused(hall, BadFan, "set_fan", "x", "out", thing, side="out")
                self.refused(hall, BadFan, "set_fan", "x", "into", thing, side="into")
        for fan in ([1, 2], (1, True), (False, 2), ("1", 2), (1, 2, 3)):
            self.refused(hall, BadFan, "set_fan", "x", "into", fan, side="into")


class Rooms(Halls):
    def test_put(self):
        hall = Hall(BOOK)
        for number, lot in enumerate((("a",), ("a", "b", "c"), ("c",), ("c",))):
            self.assertEqual(self.done(hall, "put", lot), number)
            self.assertEqual(hall.lot(number), lot)
        self.assertEqual(hall.rooms(), (0, 1, 2, 3))

    def test_put_refused(self):
        hall = Hall(BOOK)
        for thing in odd_things() + [("c", "b"), ("a", "a"), ("a", "d"), ("x",), "abc", ["a", "b"], ("a", None)]:
            if thing not in (("a",), ("a", "b")):
                self.refused(hall, BadLot, "put", thing)

    def test_the_numbers_stay_their_own(self):
        hall = Hall(BOOK)
        for _ in range(5):
            self.done(hall, "put", ("c",))
        self.done(hall, "tie", "y", 1, 4)
        self.done(hall, "strike", 0)
        self.done(hall, "strike", 2)
        self.assertEqual(hall.rooms(), (1, 3, 4))
        self.assertEqual(hall.house(), ((("c",),) * 3, (("y", 0, 2),)))
        self.assertEqual(self.done(hall, "put", ("b",)), 5)
        self.done(hall, "tie", "y", 4, 3)
        self.done(hall, "tie", "x", 5, 1)
        self.assertEqual(hall.house(), ((("c",),) * 3 + (("b",),), (("x", 3, 0), ("y", 0, 2), ("y", 2, 1))))
        for room in (0, 2, 6, -1):
            self.refused(hall, NoRoom, "strike", room, room=room)
            self.refused(hall, NoRoom, "tie", "y", 1, room, room=room)

    def test_strike_refused(self):
        hall = Hall(BOOK)
        for lot in (("c",), ("c",), ("c",), ("a",)):
            self.done(hall, "put", lot)
        self.done(hall, "tie", "y", 0, 1)
        self.done(hall, "tie", "y", 2, 2)
        for room in (0, 1, 2):
            self.refused(hall, InUse, "strike", room)
        for thing in odd_things():
            if thing.__class__ is not int or thing not in range(4):
                self.refused(hall, NoRoom, "strike", thing, room=thing)
        self.done(hall, "strike", 3)

    def test_tie_and_untie(self):
        hall = Hall(BOOK)
        for lot in (("b",), ("c",)):
            self.done(hall, "put", lot)
        self.done(hall, "tie", "y", 1, 1)
        self.done(hall, "tie", "x", 0, 1)
        self.assertEqual(hall.house()[1], (("x", 0, 1), ("y", 1, 1)))
        self.refused(hall, Taken, "tie", "x", 0, 1, thing=("x", 0, 1))
        for thing in odd_things():
            self.refused(hall, NoDoor, "tie", thing, None, None, name=thing)
            if thing.__class__ is not int or thing not in (0, 1):
                self.refused(hall, NoRoom, "tie", "x", thing, "no", room=thing)
                self.refused(hall, NoRoom, "tie", "x", 0, thing, room=thing)
                self.refused(hall, NoWay, "untie", "x", 0, thing)
                self.refused(hall, NoWay, "untie", "x", thing, 1)
            self.refused(hall, NoWay, "untie", thing, 0, 1)
        for way in (("x", 0, True), ("x", False, 1), ("y", True, 1), ("y", 1, True), ("x", 1, 0), ("y", 0, 0)):
            self.refused(hall, NoWay, "untie", *way)
        self.done(hall, "untie", "x", 0, 1)
        self.refused(hall, NoWay, "untie", "x", 0, 1)


class Bars(Halls):
    def test_each_deed_that_can_bar(self):
        hall = Hall(BOOK)
        for _ in range(4):
            self.done(hall, "put", ("c",))
        self.done(hall, "strike", 0)
        self.done(hall, "tie", "x", 2, 2)
        self.done(hall, "tie", "x", 2, 3)
        self.refused(hall, Barred, "tie", "x", 2, 1, bar=("out", "x", 2, 3, 2))
        self.refused(hall, Barred, "set_fan", "x", "out", (0, 1), bar=("out", "x", 2, 2, 1))
        self.done(hall, "tie", "y", 2, 3)
        self.done(hall, "tie", "y", 3, 3)
        self.refused(hall, Barred, "set_fan", "y", "into", (0, 1), bar=("into", "y", 3, 2, 1))
        self.refused(hall, Barred, "new_door", "z", "c", "c", (2, 2), (1, 1), bar=("bare", 1, "c"))
        self.done(hall, "new_door", "z", "b", "b", (2, 2), (0, 4))
        self.refused(hall, Barred, "set_fan", "z", "into", (0, 1), bar=("bare", 2, "b"))

    def test_a_rule_that_turns_and_one_that_makes_bare(self):
        hall = Hall((("a", "b", "c"), (), (("x", "b", "a", (1, 4), (0, 1)), ("z", "c", "c", (2, 2), (1, 1)))))
        for _ in range(3):
            self.done(hall, "put", ("a", "b"))
        self.done(hall, "tie", "x", 1, 1)
        self.done(hall, "tie", "x", 1, 2)
        self.done(hall, "strike", 0)
        self.refused(hall, Barred, "new_rule", "a", "b", bar=("out", "x", 1, 2, 1))
        self.refused(hall, Barred, "new_rule", "b", "c", bar=("bare", 1, "b"))
        self.refused(hall, Barred, "put", ("c",), bar=("bare", 3, "c"))
        self.refused(hall, Barred, "tie", "z", 1, 2, bar=("bare", 1, "c"))

    def test_own_refusals_come_ahead(self):
        hall = Hall(BOOK)
        for _ in range(3):
            self.done(hall, "put", ("c",))
        self.done(hall, "tie", "x", 0, 0)
        self.done(hall, "tie", "x", 0, 1)
        self.refused(hall, Taken, "tie", "x", 0, 1, thing=("x", 0, 1))
        self.refused(hall, Barred, "tie", "x", 0, 2, bar=("out", "x", 0, 3, 2))
        for name in "pqrs":
            self.done(hall, "new_door", name, "a", "a", ANY, ANY)
        self.refused(hall, Full, "new_door", "z", "c", "c", (2, 2), (1, 1), bound=6)


class AtTheBoundOfDeeds(Halls):
    def test_long(self):
        hall = Hall(BOOK)
        for at in range(100):
            self.done(hall, "put", ("c",))
        for deed in (("put", ("c",)), ("put", None), ("new_kind", ""), ("strike", 5), ("strike", 500), ("drop_kind", None),
                     ("new_rule", "p", "q"), ("drop_rule", 0, 0), ("new_door", 0, 0, 0, 0, 0), ("drop_door", ""), ("set_fan", 0, 0, 0),
                     ("tie", "y", 0, 0), ("tie", 0, 0, 0), ("untie", 0, 0, 0), ("new_kind", "d")):
            self.refused(hall, Long, *deed)
        self.assertEqual(len(hall), 100)
        hall.back()
        self.done(hall, "tie", "y", 0, 0)
        self.refused(hall, Long, "untie", "y", 0, 0)


class AgainstAPlainHall(Halls):
    def same(self, hall, plain):
        self.assertEqual(hall.book(), plain.book())
        self.assertEqual(hall.house(), plain.house())
        self.assertEqual(hall.rooms(), tuple(sorted(plain.lots)))
        self.assertEqual(tuple(hall.lot(room) for room in hall.rooms()), tuple(plain.lots[room] for room in hall.rooms()))
        self.assertEqual(hall.deeds(), tuple(deed for deed, state in plain.stood))
        self.assertEqual(len(hall), len(plain.stood))
        sizes = [len(plain.kinds), len(plain.rules), len(plain.doors), len(plain.lots), len(plain.ways)]
        self.assertEqual(str(hall), " ".join(map(str, sizes)))
        self.assertIsNone(bar(hall.book(), hall.house()))

    def step(self, hall, plain, deed):
        """What both tell of a deed."""
        try:
            told = ("told", plain.back() if deed == ("back",) else plain.do(deed))
        except Refused as refusal:
            told = refusal.told
        self.assertEqual(told_by(getattr(hall, deed[0]), *deed[1:]), told, (hall.book(), hall.house(), deed))
        self.assertEqual(hall.deeds(), tuple(known for known, state in plain.stood))
        return told[0]

    def test_rows_of_deeds_drawn_by_chance(self):
        rand = random.Random(311)
        seen = Counter()
        for book in [BOOK, FREE] + mixed_books(312, 6)[:24]:
            hall, plain = Hall(book), PlainHall(book)
            for _ in range(rand.choice((40, 160))):
                deed = ("back",) if rand.random() < 0.04 else random_deed(rand, plain, odd_things())
                seen[self.step(hall, plain, deed)] += 1
            self.same(hall, plain)
            self.check_finish(hall)
            while plain.stood and rand.random() < 0.97:
                self.step(hall, plain, ("back",))
                if rand.random() < 0.2:
                    self.same(hall, plain)
        for word in ("told", "Barred", "Taken", "InUse", "NoKind", "NoRoom", "BadFan", "BadLot", "Full", "Same", "NoWay", "NoRule"):
            self.assertGreater(seen[word], 2, seen)
        self.assertGreater(seen["told"], 1000)

    def check_finish(self, hall):
        """A hall's house can be finished behind every row of deeds."""
        told = told_by(hall.finish)
        self.assertIn(told[0], ("told", "TooGreat"))
        if told[0] == "told":
            self.assertIsNone(wrong_in(hall.book(), told[1]))
            self.assertEqual(told[1], finished(hall.book(), hall.house()))


class Asked(Halls):
    def test_lot_of_anything(self):
        hall = Hall(BOOK)
        self.done(hall, "put", ("a",))
        self.done(hall, "put", ("a", "c"))
        self.done(hall, "put", ("b",))
        self.done(hall, "strike", 0)
        self.assertEqual(hall.lot(1), ("a", "c"))
        self.assertEqual(hall.lot(2), ("b",))
        for thing in odd_things():
            if thing.__class__ is int and thing in (1, 2):
                continue
            with self.assertRaises(NoRoom) as caught:
                hall.lot(thing)
            self.assertEqual(repr(caught.exception.room), repr(thing))
        self.assertEqual(len(hall), 4)

    def test_a_lot_is_as_it_was_put(self):
        hall = Hall((("a", "b", "c"), (("a", "b"),), (("x", "a", "c", ANY, ANY),)))
        self.done(hall, "put", ("a",))
        self.done(hall, "tie", "x", 0, 0)
        self.assertEqual(hall.lot(0), ("a",))
        self.assertEqual(hall.house()[0], (("a",),))
        self.assertEqual(hall.finish()[0][0], ("a", "b", "c"))

    def test_deeds_are_as_tried_takes_them(self):
        hall = Hall(FREE)
        deeds = (("new_kind", "c"), ("new_rule", "c", "a"), ("new_door", "y", "c", "c", (1, 2), (0, None)), ("set_fan", "y", "out", (1, 1)),
                 ("put", ("a", "c")), ("put", ("b",)), ("tie", "x", 0, 1), ("untie", "x", 0, 1), ("strike", 1), ("drop_rule", "c", "a"),
                 ("drop_door", "x"), ("drop_kind", "b"))
        for deed in deeds:
            self.done(hall, *deed)
        self.assertEqual(hall.deeds(), deeds)
        other = Hall(FREE)
        other.tried(hall.deeds())
        self.assertEqual(other, hall)
        self.assertEqual(other.deeds(), deeds)

    def test_finish(self):
        hall = Hall(BOOK)
        self.done(hall, "put", ("a",))
        self.assertEqual(hall.finish(), finished(BOOK, ((("a",),), ())))
        self.assertIsNone(wrong_in(BOOK, hall.finish()))
        for _ in range(60):
            self.done(hall, "put", ("c",))
        with self.assertRaises(TooGreat) as caught:
            hall.finish()
        self.assertEqual(caught.exception.bound, 300)

    def test_str_and_len(self):
        hall = Hall(BOOK)
        self.assertEqual((str(hall), len(hall)), ("3 1 2 0 0", 0))
        for _ in range(12):
            self.done(hall, "put", ("c",))
        self.done(hall, "tie", "y", 11, 3)
        self.done(hall, "new_kind", "d")
        self.assertEqual((str(hall), len(hall)), ("4 1 2 12 1", 14))

    def test_what_is_told_is_in_tuples_and_stays(self):
        hall = Hall(BOOK)
        hall.tried((("put", ("c",)), ("put", ("a", "b")), ("tie", "y", 0, 0)))
        before = stands_as(hall)
        kept = copy.deepcopy(before)
        self.assertTrue(all_tuples(before))
        self.assertEqual(stands_as(hall), before)
        hall.put(("c",))
        hall.back()
        self.assertEqual(stands_as(hall), kept)
        hall.tried((("untie", "y", 0, 0),))
        self.assertEqual(before, kept)


class Equality(Halls):
    def test_equal(self):
        one, other = Hall(BOOK), Hall(copy.deepcopy(BOOK))
        self.assertTrue(one == other and not one != other)
        one.put(("a",))
        self.assertFalse(one == other)
        other.tried((("put", ("a",)),))
        self.assertTrue(one == other)

    def test_by_other_deeds(self):
        one, other = Hall(BOOK), Hall((("a", "c"), (), ()))
        other.new_kind("b")
        other.new_door("y", "c", "c", ANY, ANY)
        other.new_door("x", "b", "c", (1, 1), (0, 2))
        other.set_fan("x", "out", (1, 2))
        self.assertFalse(one == other)
        other.new_rule("a", "b")
        self.assertTrue(one == other)

    def test_numbers_to_come(self):
        one, other = Hall(BOOK), Hall(BOOK)
        one.put(("a",))
        one.strike(0)
        self.assertEqual((one.book(), one.house(), one.rooms()), (other.book(), other.house(), other.rooms()))
        self.assertFalse(one == other)
        other.put(("c",))
        other.strike(0)
        self.assertTrue(one == other)
        one.put(("a",))
        one.back()
        self.assertTrue(one == other)

    def test_numbers_of_rooms(self):
        one, other = Hall(BOOK), Hall(BOOK)
        for hall, struck in ((one, 0), (other, 1)):
            hall.put(("a",))
            hall.put(("a",))
            hall.strike(struck)
        self.assertEqual(one.house(), other.house())
        self.assertFalse(one == other)

    def test_other_things(self):
        hall = Hall(BOOK)
        for thing in odd_things() + [BOOK, hall.house(), str(hall), Hall]:
            self.assertIs(hall == thing, False)
            self.assertIs(thing == hall, False)
            self.assertIs(hall != thing, True)


class Twins(Halls):
    def test_stands_alike(self):
        hall = Hall(BOOK)
        hall.put(("c",))
        hall.put(("a",))
        hall.strike(0)
        hall.tried((("put", ("c",)), ("tie", "y", 2, 2)))
        twin = hall.twin()
        self.assertIsInstance(twin, Hall)
        self.assertIsNot(twin, hall)
        self.assertEqual(twin, hall)
        self.assertEqual(stands_as(twin), stands_as(hall))

    def test_each_goes_its_own_way(self):
        hall = Hall(BOOK)
        for _ in range(3):
            hall.put(("c",))
        twin = hall.twin()
        before = stands_as(hall)
        twin.tie("y", 0, 1)
        twin.new_kind("d")
        twin.tried((("put", ("d",)),))
        self.assertEqual(stands_as(hall), before)
        self.assertEqual(twin.rooms(), (0, 1, 2, 3))
        behind = stands_as(twin)
        hall.back()
        hall.strike(0)
        hall.tried(())
        self.assertEqual(stands_as(twin), behind)

    def test_takes_back_its_own_deeds(self):
        hall = Hall(BOOK)
        hall.put(("c",))
        hall.put(("a",))
        twin = hall.twin()
        for many in (1, 0):
            twin.back()
            self.assertEqual(len(twin), many)
        self.assertRaises(NothingBack, twin.back)
        self.assertEqual(twin, Hall(BOOK))
        self.assertEqual(len(hall), 2)
        self.assertEqual(twin.put(("a",)), 0)

    def test_numbers_to_come(self):
        hall = Hall(BOOK)
        hall.put(("c",))
        hall.strike(0)
        self.assertEqual(hall.twin().put(("c",)), 1)
        self.assertEqual(hall.put(("c",)), 1)


if __name__ == "__main__":
    unittest.main()
