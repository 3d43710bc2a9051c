"""[24]: deeds undone, and many tried at once."""

import copy
import random
import unittest
from collections import Counter

from fankinds.errors import (BadDeeds, BadLot, Barred, Broken, Busy, Long, NoKind, NoRoom, NothingBack, Taken)
from fankinds.halls import Hall
from tests.plain_hall import TAKES, PlainHall, Refused, random_deed
from tests.samples import mixed_books, odd_things
from tests.test_halls import Halls, stands_as

ANY = (0, None)
BOOK = (("a", "b", "c"), (("a", "b"),), (("x", "b", "c", (1, 2), (0, 2)), ("y", "c", "c", ANY, ANY)))
PUT = ("put", ("c",))
# One of each deed, each of which can be done behind those ahead.
EACH = (("new_kind", "d"), ("new_rule", "d", "a"), ("new_door", "z", "d", "c", ANY, (0, 1)), ("set_fan", "z", "into", ANY), PUT,
        ("put", ("d",)), ("tie", "y", 0, 0), ("untie", "y", 0, 0), ("strike", 1), ("drop_rule", "d", "a"), ("drop_door", "z"),
        ("drop_kind", "d"))


def no_tries(told):
    return told[:5] + told[6:]


class Back(Halls):
    def test_of_each_deed(self):
        hall = Hall(BOOK)
        stood = [no_tries(stands_as(hall))]
        for deed in EACH:
            self.done(hall, *deed)
            stood.append(no_tries(stands_as(hall)))
        self.assertEqual({deed[0] for deed in EACH}, set(TAKES))
        for before in reversed(stood[:-1]):
            self.assertIsNone(hall.back())
            self.assertEqual(no_tries(stands_as(hall)), before)
        for _ in range(2):
            self.refused(hall, NothingBack, "back")

    def test_at_first(self):
        self.refused(Hall(BOOK), NothingBack, "back")

    def test_the_number_of_a_put_comes_again(self):
        hall = Hall(BOOK)
        self.assertEqual([hall.put(("c",)) for _ in range(3)], [0, 1, 2])
        hall.back()
        self.assertEqual(hall.put(("a",)), 2)
        hall.back()
        hall.back()
        self.assertEqual([hall.put(("c",)), hall.put(("c",))], [1, 2])

    def test_the_number_of_a_struck_room_does_not(self):
        hall = Hall(BOOK)
        hall.put(("c",))
        hall.put(("a",))
        hall.strike(1)
        self.assertEqual(hall.put(("c",)), 2)
        hall.back()
        hall.back()
        self.assertEqual(hall.rooms(), (0, 1))
        self.assertEqual(hall.lot(1), ("a",))
        hall.strike(0)
        hall.back()
        self.assertEqual(hall.rooms(), (0, 1))
        self.assertEqual(hall.put(("c",)), 2)

    def test_a_refused_deed_is_none_to_undo(self):
        hall = Hall(BOOK)
        hall.put(("c",))
        self.refused(hall, NoRoom, "strike", 7, room=7)
        hall.back()
        self.assertEqual(hall.rooms(), ())

    def test_what_was_tried_is_undone_deed_by_deed(self):
        hall = Hall(BOOK)
        hall.tried(EACH)
        self.assertEqual(len(hall), 12)
        for many in range(11, -1, -1):
            hall.back()
            self.assertEqual(hall.deeds(), EACH[:many])


class Tried(Halls):
    def broken(self, hall, deeds, at, made, **fields):
        ahead = stands_as(hall)
        with self.assertRaises(Broken) as caught:
            hall.tried(deeds)
        self.assertEqual(caught.exception.at, at)
        cause = caught.exception.__cause__
        self.assertIs(cause.__class__, made)
        for name, part in fields.items():
            self.assertEqual(getattr(cause, name), part)
        self.assertEqual(no_tries(stands_as(hall)), no_tries(ahead))
        self.assertEqual(hall.tries(), (ahead[5] + (("begin", len(deeds)), ("end", 0)))[-10:])

    def test_none(self):
        hall = Hall(BOOK)
        self.assertEqual(hall.tried(()), ())
        self.assertEqual((len(hall), hall.tries()), (0, (("begin", 0), ("end", 0))))

    def test_one(self):
        hall = Hall(BOOK)
        self.assertEqual(hall.tried((PUT,)), (0,))
        self.assertEqual(hall.tried((("tie", "y", 0, 0),)), (None,))
        self.assertEqual(hall.deeds(), (PUT, ("tie", "y", 0, 0)))

    def test_each(self):
        hall, other = Hall(BOOK), Hall(BOOK)
        self.assertEqual(hall.tried(EACH), (None,) * 4 + (0, 1) + (None,) * 6)
        for deed in EACH:
            getattr(other, deed[0])(*deed[1:])
        self.assertEqual(hall, other)
        self.assertEqual(hall.deeds(), other.deeds())
        self.assertEqual(hall.tries(), (("begin", 12), ("end", 12)))

    def test_as_many_as_may_be_and_one_more(self):
        hall = Hall(BOOK)
        self.assertEqual(hall.tried((PUT,) * 20), tuple(range(20)))
        for many in (21, 22, 100):
            self.refused(hall, BadDeeds, "tried", (PUT,) * many)
        self.assertEqual(hall.tries(), (("begin", 20), ("end", 20)))

    def test_no_tuples_of_deeds(self):
        hall = Hall(BOOK)
        for thing in odd_things():
            if thing != ():
                self.refused(hall, BadDeeds, "tried", thing)
            if thing != []:
                self.refused(hall, BadDeeds, "tried", (PUT, thing))
            self.refused(hall, BadDeeds, "tried", ((thing, "a"),))
        for deed in (("back",), ("back", None), ("tried", ()), ("tries",), ("book",), ("twin",), ("finish",), ("New_kind", "d"), ("",),
                     ("done", PUT), ("__len__",), (("put",), ("c",)), ["put", ("c",)], PUT[0], (True, 1), ({}, 1), ([], 1)):
            self.refused(hall, BadDeeds, "tried", (deed,))
            self.refused(hall, BadDeeds, "tried", (PUT, deed, PUT))
        self.refused(hall, BadDeeds, "tried", [PUT])
        self.refused(hall, BadDeeds, "tried", PUT)
        self.assertEqual(hall.tries(), ())

    def test_too_few_and_too_many_things(self):
        hall = Hall(BOOK)
        for word, takes in TAKES.items():
            for many in range(8):
                deeds = ((word,) + (None,) * many,)
                if many == takes:
                    self.assertRaises(Broken, hall.tried, deeds)
                else:
                    self.refused(hall, BadDeeds, "tried", deeds)

    def test_things_of_any_kind(self):
        hall = Hall(BOOK)
        for word, takes in TAKES.items():
            for thing in odd_things():
                before = stands_as(hall)
                can_be = word == "new_kind" and thing in ("ab", "out", "rule", "ring") or word == "put" and thing in (("a",), ("a", "b"))
                if not can_be:
                    self.assertRaises(Broken, hall.tried, ((word,) + (thing,) * takes,))
                    self.assertEqual(no_tries(stands_as(hall)), no_tries(before))

    def test_broken(self):
        hall = Hall(BOOK)
        hall.put(("c",))
        self.broken(hall, (PUT, ("tie", "y", 0, 1), ("strike", 2)), 2, NoRoom, room=2)
        self.broken(hall, (("put", ()),), 0, BadLot)
        self.broken(hall, (PUT, ("tie", "y", 0, 1), ("tie", "y", 0, 1), ("put", None)), 2, Taken, thing=("y", 0, 1))
        self.broken(hall, (PUT, PUT, ("tie", "x", 0, 0), ("tie", "x", 0, 1), ("tie", "x", 0, 2)), 4, Barred, bar=("out", "x", 0, 3, 2))
        self.broken(hall, (PUT,) * 19 + (("drop_kind", "q"),), 19, NoKind, name="q")
        self.assertEqual(hall.tried((PUT,)), (1,))

    def test_a_bar_amid_that_a_later_deed_would_lift(self):
        hall = Hall(BOOK)
        for _ in range(3):
            hall.put(("c",))
        deeds = tuple(("tie", "x", 0, at) for at in range(3)) + (("untie", "x", 0, 1),)
        self.broken(hall, deeds, 2, Barred)

    def test_long_within_it(self):
        hall = Hall(BOOK)
        for _ in range(95):
            hall.put(("c",))
        self.broken(hall, (PUT,) * 6, 5, Long)
        self.broken(hall, (PUT,) * 5 + (("put", None),), 5, Long)
        self.assertEqual(hall.tried((PUT,) * 5), tuple(range(95, 100)))
        self.assertEqual(hall.tried(()), ())
        self.broken(hall, (PUT,), 0, Long)
        self.refused(hall, BadDeeds, "tried", (("put",),))

    def test_tries(self):
        hall = Hall(BOOK)
        rows = []
        rand = random.Random(321)
        for _ in range(14):
            many = rand.randint(0, 4)
            if rand.random() < 0.5:
                hall.tried((PUT,) * many)
                rows += [("begin", many), ("end", many)]
            else:
                self.assertRaises(Broken, hall.tried, (PUT,) * many + (("put", ()),))
                rows += [("begin", many + 1), ("end", 0)]
            self.assertRaises(BadDeeds, hall.tried, None)
            self.assertEqual(hall.tries(), tuple(rows[-10:]))
        hall.back()
        self.assertEqual(hall.tries(), tuple(rows[-10:]))

    def test_tell_is_handed_by_name_only(self):
        hall = Hall(BOOK)
        self.assertRaises(TypeError, hall.tried, (), None)
        self.assertEqual(hall.tried((PUT,), tell=None), (0,))


class OtherError(Exception):
    pass


class Stop(BaseException):
    pass


class Tell(Halls):
    def test_called_behind_each_deed_with_the_hall(self):
        hall = Hall(BOOK)
        seen = []

        def tell(told):
            self.assertIs(told, hall)
            seen.append((told.deeds(), told.rooms(), len(told), told.tries()))
            return 7

        self.assertEqual(hall.tried((PUT, ("tie", "y", 0, 0), PUT), tell=tell), (0, None, 1))
        deeds = (PUT, ("tie", "y", 0, 0), PUT)
        self.assertEqual(seen, [(deeds[:1], (0,), 1, (("begin", 3),)), (deeds[:2], (0,), 2, (("begin", 3),)),
                                (deeds, (0, 1), 3, (("begin", 3),))])
        self.assertEqual(hall.tries(), (("begin", 3), ("end", 3)))

    def test_not_called_where_no_deed_is_done(self):
        hall = Hall(BOOK)
        calls = []
        hall.tried((), tell=calls.append)
        self.assertRaises(BadDeeds, hall.tried, (None,), tell=calls.append)
        self.assertRaises(Broken, hall.tried, (("put", ()),), tell=calls.append)
        self.assertEqual(calls, [])
        self.assertRaises(Broken, hall.tried, (PUT, PUT, ("put", ())), tell=calls.append)
        self.assertEqual(len(calls), 2)

    def test_what_it_raises_goes_through(self):
        for made in (OtherError, Stop, KeyError, ValueError, NoRoom, Barred, Broken, Busy, Long, BadDeeds, KeyboardInterrupt):
            for last in range(1, 4):
                hall = Hall(BOOK)
                hall.put(("a",))
                before = stands_as(hall)
                raised = made(3) if made in (NoRoom, Barred, Broken) else made()
                calls = []

                def tell(told):
                    calls.append(len(told))
                    if len(calls) == last:
                        raise raised

                with self.assertRaises(made) as caught:
                    hall.tried((PUT, ("new_kind", "d"), ("strike", 0)), tell=tell)
                self.assertIs(caught.exception, raised)
                self.assertEqual(no_tries(stands_as(hall)), no_tries(before))
                self.assertEqual(hall.tries(), (("begin", 3), ("end", 0)))
                self.assertEqual(hall.put(("c",)), 1)
                hall.back()
                self.assertEqual(no_tries(stands_as(hall)), no_tries(before))

    def test_busy_ahead_of_all_else(self):
        hall = Hall(BOOK)
        hall.tried((PUT,) * 20)
        refused = []

        def tell(told):
            before = stands_as(told)
            for word, takes in TAKES.items():
                for thing in (None, "a", ("c",), 0, [], (PUT,)):
                    self.assertRaises(Busy, getattr(told, word), *(thing,) * takes)
            self.assertRaises(Busy, told.put, ("c",))
            self.assertRaises(Busy, told.back)
            for thing in ((), (PUT,), None, [PUT], (("put", ()),), (PUT,) * 21):
                self.assertRaises(Busy, told.tried, thing)
                self.assertRaises(Busy, told.tried, thing, tell=tell)
            self.assertEqual(stands_as(told), before)
            refused.append(len(told))

        hall.tried((PUT, ("tie", "y", 0, 0)), tell=tell)
        self.assertEqual(refused, [21, 22])
        for _ in range(78):
            hall.put(("c",))
        hall.back()
        hall.tried((PUT,), tell=tell)
        self.assertEqual(refused[-1], 100)
        self.refused(hall, Long, "put", ("c",))

    def test_busy_that_goes_through(self):
        hall = Hall(BOOK)
        before = stands_as(hall)
        self.assertRaises(Busy, hall.tried, (PUT, PUT), tell=lambda told: told.back())
        self.assertEqual(no_tries(stands_as(hall)), no_tries(before))
        self.assertEqual(hall.put(("c",)), 0)

    def test_all_may_be_asked(self):
        hall = Hall(BOOK)
        hall.put(("c",))
        seen = []

        def tell(told):
            other = Hall(BOOK)
            for deed in told.deeds():
                getattr(other, deed[0])(*deed[1:])
            self.assertEqual(told, other)
            self.assertEqual(no_tries(stands_as(told)), no_tries(stands_as(other)))
            self.assertEqual(told.tries(), (("begin", 4),))
            with self.assertRaises(NoRoom):
                told.lot(99)
            seen.append(str(told))

        hall.tried((PUT, ("tie", "y", 1, 0), ("new_kind", "d"), ("put", ("d",))), tell=tell)
        self.assertEqual(seen, ["3 1 2 2 0", "3 1 2 2 1", "4 1 2 2 1", "4 1 2 3 1"])

    def test_a_twin_made_within_is_not_busy(self):
        hall = Hall(BOOK)
        twins = []

        def tell(told):
            twin = told.twin()
            twin.put(("a",))
            twin.tried((PUT,), tell=lambda inner: self.assertRaises(Busy, inner.back))
            twin.back()
            self.assertRaises(Busy, told.back)
            twins.append(twin)

        hall.tried((PUT, PUT), tell=tell)
        self.assertEqual([twin.rooms() for twin in twins], [(0, 1), (0, 1, 2)])
        self.assertEqual([twin.tries() for twin in twins], [(("begin", 2), ("begin", 1), ("end", 1))] * 2)
        self.assertEqual(hall.rooms(), (0, 1))
        twins[0].back()
        twins[0].back()
        self.assertEqual(len(twins[0]), 0)

    def test_a_tell_within_a_tell(self):
        one, other = Hall(BOOK), Hall(BOOK)
        calls = []

        def inner(told):
            self.assertIs(told, other)
            for hall in (one, other):
                self.assertRaises(Busy, hall.put, ("c",))
                self.assertRaises(Busy, hall.back)
                self.assertRaises(Busy, hall.tried, ())
            calls.append(len(told))

        def outer(told):
            self.assertIs(told, one)
            other.put(("c",))
            other.tried((PUT,), tell=inner)
            self.assertRaises(Busy, told.put, ("c",))
            other.back()

        one.tried((PUT, PUT), tell=outer)
        self.assertEqual(calls, [2, 3])
        self.assertEqual((len(one), len(other)), (2, 2))
        one.put(("c",))
        other.put(("c",))

    def test_not_busy_between_and_behind(self):
        hall = Hall(BOOK)
        for tell in (None, lambda told: None):
            hall.tried((PUT,), tell=tell)
            hall.put(("c",))
            hall.back()
        with self.assertRaises(OtherError):
            hall.tried((PUT,), tell=self.raise_other)
        hall.put(("c",))

    def raise_other(self, told):
        raise OtherError()


class ByChance(Halls):
    def test_all_or_none_as_deed_by_deed(self):
        rand = random.Random(331)
        seen = Counter()
        for book in [BOOK] + mixed_books(332, 8)[:40]:
            hall, plain = Hall(book), PlainHall(book)
            for _ in range(12):
                deeds = self.drawn(rand, plain, rand.randint(0, 5))
                before = plain.state(), list(plain.stood)
                try:
                    at, told = 0, []
                    for at, deed in enumerate(deeds):
                        told.append(plain.do(deed))
                    self.assertEqual(hall.tried(deeds), tuple(told))
                    seen["told"] += 1
                except Refused as refusal:
                    plain.restore(before[0])
                    plain.stood = before[1]
                    with self.assertRaises(Broken) as caught:
                        hall.tried(deeds)
                    self.assertEqual(caught.exception.at, at)
                    self.assertEqual(caught.exception.__cause__.__class__.__name__, refusal.told[0])
                    seen[refusal.told[0]] += 1
                self.assertEqual(hall.book(), plain.book())
                self.assertEqual(hall.house(), plain.house())
                self.assertEqual(hall.deeds(), tuple(deed for deed, state in plain.stood))
        self.assertGreater(min(seen[word] for word in ("told", "Barred", "Taken", "InUse")), 5, seen)

    def drawn(self, rand, plain, many):
        """Deeds, each mostly such as can be done behind those ahead."""
        ahead = plain.state(), list(plain.stood)
        deeds = []
        for _ in range(many):
            deed = random_deed(rand, plain, odd_things() if rand.random() < 0.1 else ())
            try:
                plain.do(deed)
                deeds.append(deed)
            except Refused:
                if rand.random() < 0.2:
                    deeds.append(deed)
        plain.restore(ahead[0])
        plain.stood = ahead[1]
        return tuple(copy.deepcopy(deeds))


if __name__ == "__main__":
    unittest.main()
