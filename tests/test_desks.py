"""[27]: a desk."""

import copy
import random
import unittest
from collections import Counter

from fankinds.answers import answer
from fankinds.desks import Desk
from fankinds.halls import Hall
from fankinds.houses import counts
from fankinds.least import least
from tests.plain import PlainBook
from tests.plain_hall import PlainHall, Refused, random_deed
from tests.samples import mixed_books, odd_things
from tests.test_halls import stands_as

ANY = (0, None)
BOOK = (("a", "b", "c"), (("a", "b"),), (("x", "b", "c", (1, 2), (0, 2)), ("y", "c", "c", ANY, ANY)))
BARE = (("a", "b", "c", "d"), (("a", "b"),), (("x", "b", "b", (2, 2), (1, 1)), ("y", "c", "d", ANY, ANY)))
SIGNS = "".join(map(chr, range(32, 127)))


def line_of(deed):
    """A deed as a line; None where its things can't stand in one."""
    words = [deed[0]]
    for thing in deed[1:]:
        if deed[0] == "put" and thing.__class__ is tuple:
            words.extend(thing)
        elif thing.__class__ is tuple and len(thing) == 2:
            words.append(f"{thing[0]}-{'*' if thing[1] is None else thing[1]}")
        else:
            words.append(str(thing))
    return " ".join(map(str, words))


class Desks(unittest.TestCase):
    def desk(self, book=BOOK, *deeds):
        hall = Hall(book)
        for deed in deeds:
            getattr(hall, deed[0])(*deed[1:])
        return Desk(hall), hall

    def says(self, desk, *rows):
        for line, told in rows:
            self.assertEqual(desk.say(line), told, line)
            self.assertIs(desk.say.__self__, desk)
            self.assertEqual(desk.log()[-1], (line, told))


class Deeds(Desks):
    def test_each_done(self):
        desk, hall = self.desk()
        self.says(desk, ("new_kind d", "done"), ("new_rule d a", "done"), ("new_door z d c 0-* 0-1", "done"), ("set_fan z into 0-*", "done"),
                  ("put c", "done 0"), ("put a b d", "done 1"), ("tie y 0 0", "done"), ("tie x 1 0", "done"), ("untie y 0 0", "done"),
                  ("back", "done"), ("untie y 0 0", "done"), ("untie x 1 0", "done"), ("strike 1", "done"), ("put c", "done 2"),
                  ("drop_rule d a", "done"), ("drop_door z", "done"), ("drop_kind d", "done"))
        self.assertEqual(hall.deeds(), (
            ("new_kind", "d"), ("new_rule", "d", "a"), ("new_door", "z", "d", "c", ANY, (0, 1)), ("set_fan", "z", "into", ANY), ("put", ("c",)),
            ("put", ("a", "b", "d")), ("tie", "y", 0, 0), ("tie", "x", 1, 0), ("untie", "y", 0, 0), ("untie", "x", 1, 0), ("strike", 1),
            ("put", ("c",)), ("drop_rule", "d", "a"), ("drop_door", "z"), ("drop_kind", "d")))
        self.assertEqual(hall.tries(), ())

    def test_refused(self):
        desk, hall = self.desk(BOOK, ("put", ("c",)), ("put", ("c",)), ("tie", "y", 0, 1), ("tie", "x", 0, 0), ("tie", "x", 0, 1), ("put", ("c",)))
        ahead = stands_as(hall)
        self.says(desk, ("new_kind a", "no Taken"), ("drop_kind d", "no NoKind"), ("drop_kind a", "no InUse"), ("new_rule a d", "no NoKind"),
                  ("new_rule a a", "no Same"), ("new_rule a b", "no Taken"), ("drop_rule b a", "no NoRule"), ("drop_rule p q", "no NoRule"),
                  ("new_door x q q 9-0 9-0", "no Taken"), ("new_door z q a 9-0 9-0", "no NoKind"), ("new_door z a q 9-0 9-0", "no NoKind"),
                  ("new_door z a a 0-0 0-*", "no BadFan"), ("new_door z a a 0-* 5-*", "no BadFan"), ("drop_door z", "no NoDoor"),
                  ("drop_door y", "no InUse"), ("set_fan z no 9-0", "no NoDoor"), ("set_fan x left 9-0", "no BadSide"),
                  ("set_fan x out 2-1", "no BadFan"), ("set_fan x into 0-9", "no BadFan"), ("set_fan x out 0-1", "no Barred"),
                  ("put d", "no BadLot"), ("put b a", "no BadLot"), ("put a a", "no BadLot"), ("put a b c d e f g", "no BadLot"),
                  ("strike 3", "no NoRoom"), ("strike 0", "no InUse"), ("strike " + "9" * 3000, "no NoRoom"), ("tie z 9 9", "no NoDoor"),
                  ("tie x 0 9", "no NoRoom"), ("tie x 9 0", "no NoRoom"), ("tie y 0 1", "no Taken"), ("tie x 0 2", "no Barred"),
                  ("untie y 1 0", "no NoWay"), ("untie z 1 0", "no NoWay"), ("untie y 9 9", "no NoWay"))
        self.assertEqual(stands_as(hall), ahead)

    def test_full(self):
        desk, hall = self.desk((tuple("abcdef"), tuple((low, high) for low in "ab" for high in "abcdef" if low != high),
                                tuple((name, "a", "a", ANY, ANY) for name in "stuvwx")))
        self.says(desk, ("new_kind g", "no Full"), ("new_rule c d", "no Full"), ("new_door y a a 0-* 0-*", "no Full"), ("new_kind f", "no Taken"))

    def test_long_and_nothing_back(self):
        desk, hall = self.desk()
        self.says(desk, ("back", "no NothingBack"))
        for room in range(100):
            self.says(desk, ("put a", f"done {room}"))
        self.says(desk, ("put a", "no Long"), ("put d", "no Long"), ("strike 777", "no Long"), ("back", "done"), ("put a", "done 99"))

    def test_busy(self):
        hall = Hall(BOOK)
        desk = Desk(hall)
        seen = []

        def tell(told):
            before = stands_as(told)
            for line in ("new_kind d", "drop_kind q", "new_rule a a", "drop_rule p q", "new_door x a a 9-0 0-0", "drop_door z", "set_fan x out 0-*",
                         "put a", "put q", "strike 0", "tie y 0 0", "untie y 0 0", "back"):
                self.assertEqual(desk.say(line), "no Busy")
            self.assertEqual(desk.say("put"), "no line")
            self.assertEqual(desk.say("back back"), "no line")
            self.assertEqual(desk.say("ask a b"), "ever")
            self.assertEqual(desk.say("bare"), "-")
            self.assertEqual(desk.say("least a 1"), "1 1 1")
            self.assertEqual(desk.say("finish"), " ".join(map(str, counts(told.book(), told.finish()))))
            self.assertEqual(stands_as(told), before)
            seen.append(desk.say("rooms"))

        hall.tried((("put", ("c",)), ("put", ("a",))), tell=tell)
        self.assertEqual(seen, ["0", "0 1"])
        self.says(desk, ("back", "done"), ("rooms", "0"))

    def test_against_a_plain_hall(self):
        rand = random.Random(471)
        seen = Counter()
        for book in [BOOK] + mixed_books(472, 6)[:20]:
            plain, hall = PlainHall(book), Hall(book)
            desk = Desk(hall)
            for _ in range(60):
                deed = ("back",) if rand.random() < 0.05 else random_deed(rand, plain)
                try:
                    number = plain.back() if deed == ("back",) else plain.do(deed)
                    told = "done" if number is None else f"done {number}"
                except Refused as refusal:
                    told = "no " + refusal.told[0]
                self.says(desk, (line_of(deed), told))
                seen[told.split(" ")[-1]] += 1
                self.assertEqual((hall.book(), hall.house()), (plain.book(), plain.house()))
        for word in ("done", "Barred", "Taken", "InUse", "NoKind", "NoRoom", "NoWay", "Same"):
            self.assertGreater(seen[word], 0, seen)


class Questions(Desks):
    def test_ask(self):
        desk, hall = self.desk()
        self.says(desk, ("ask a b", "ever"), ("ask a a", "ever"), ("ask b a", "not"), ("ask c a", "not"))
        self.says(desk, ("new_door z b a 1-1 0-1", "done"), ("ask b a", "ended"))
        self.says(desk, ("ask d e", "no NoKind"), ("ask d a", "no NoKind"), ("ask a d", "no NoKind"), ("ask x a", "no NoKind"))

    def test_bare(self):
        self.says(self.desk(BARE)[0], ("bare", "a b"))
        self.says(self.desk()[0], ("bare", "-"))

    def test_least(self):
        desk, hall = self.desk()
        self.says(desk, ("least a 0", "0 0 0"), ("least a 1", "1 1 1"), ("least b 40", "0 40 20"), ("least c 3", "0 0 3"),
                  ("least a 41", "no TooTold"), ("least a " + "9" * 5000, "no TooTold"), ("least d 41", "no NoKind"), ("least d 1", "no NoKind"))
        self.says(self.desk(BARE)[0], ("least a 1", "-"), ("least b 40", "-"), ("least a 0", "0 0 0 0"), ("least c 2", "0 0 2 0"))

    def test_rooms(self):
        desk, hall = self.desk()
        self.says(desk, ("rooms", "-"), ("put a", "done 0"), ("rooms", "0"), ("put a", "done 1"), ("put c", "done 2"), ("rooms", "0 1 2"),
                  ("strike 1", "done"), ("rooms", "0 2"))

    def test_finish(self):
        desk, hall = self.desk()
        self.says(desk, ("finish", "0 0 0"), ("put c", "done 0"), ("finish", "4 4 5"))
        self.assertEqual(counts(BOOK, hall.finish()), (4, 4, 5))
        for room in range(1, 61):
            self.says(desk, ("put c", f"done {room}"))
        self.says(desk, ("finish", "no TooGreat"), ("back", "done"))
        self.assertEqual(desk.say("finish").split(" ")[2], "300")

    def test_questions_change_nothing(self):
        desk, hall = self.desk(BOOK, ("put", ("c",)), ("put", ("a",)))
        before = stands_as(hall)
        for line in ("ask a b", "ask q b", "bare", "least a 3", "least q 99", "rooms", "finish"):
            self.assertEqual(desk.say(line), desk.say(line))
        self.assertEqual(stands_as(hall), before)

    def test_many_books(self):
        for book in mixed_books(473, 8):
            desk, hall = self.desk(book)
            plain = PlainBook(book)
            bare = [kind for kind in book[0] if kind in plain.bare]
            self.says(desk, ("bare", " ".join(bare) or "-"))
            for low in book[0]:
                for high in book[0]:
                    self.says(desk, (f"ask {low} {high}", plain.word(low, high)))
                    self.assertEqual(answer(book, low, high)[0], plain.word(low, high))
                for n in (0, 1, 7, 40):
                    numbers = least(book, tuple(n if kind == low else 0 for kind in book[0]))
                    self.says(desk, (f"least {low} {n}", "-" if numbers is None else " ".join(map(str, numbers))))


class NoLine(Desks):
    def no_line(self, desk, line):
        before = stands_as(desk.hall)
        kept = copy.deepcopy(line)
        self.assertEqual(desk.say(line), "no line", repr(line)[:200])
        self.assertEqual(stands_as(desk.hall), before)
        self.assertEqual(repr(line), repr(kept))
        self.assertEqual(desk.log()[-1], (line if isinstance(line, str) else None, "no line"))

    def setUp(self):
        self.kept, self.hall = self.desk(BOOK, ("put", ("c",)), ("put", ("b",)), ("tie", "x", 1, 0))

    def test_what_is_no_text(self):
        for thing in odd_things() + [b"rooms", ["rooms"], ("put", ("c",)), self.hall, Desk]:
            if not isinstance(thing, str):
                self.assertEqual(self.kept.say(thing), "no line")
                self.assertEqual(self.kept.log()[-1], (None, "no line"))
            else:
                self.no_line(self.kept, thing)

    def test_blanks(self):
        for line in ("new_kind d", "tie y 0 0", "back", "rooms", "ask a b", "least a 1", "finish", "bare", "put a b", "set_fan x out 1-*"):
            for spoilt in (" " + line, line + " ", line + "\n", "\n" + line, line + "\t", line.replace(" ", "  ", 1) + "  ", line + "\nrooms"):
                self.no_line(self.kept, spoilt)
            if " " in line:
                self.no_line(self.kept, line.replace(" ", "  ", 1))
                self.no_line(self.kept, line.replace(" ", "\t", 1))
                self.no_line(self.kept, line.replace(" ", ""))

    def test_words_more_or_fewer(self):
        for line in ("new_kind d", "drop_kind c", "new_rule b a", "drop_rule a b", "new_door z a b 0-* 0-*", "drop_door y", "set_fan x out 0-*", "strike 1",
                     "tie y 0 0", "untie x 1 0", "back", "ask a b", "bare", "least a 1", "rooms", "finish"):
            for more in ("a", "0", "0-*", "back"):
                self.no_line(self.kept, line + " " + more)
            if " " in line:
                self.no_line(self.kept, line.rpartition(" ")[0])
        self.no_line(self.kept, "put")

    def test_great_letters_and_nine_letters(self):
        for line in ("New_kind d", "NEW_KIND d", "new_kind D", "new_kind abcdefghi", "new_kind a1", "new_kind a_b", "new_kind 1", "new_rule A b",
                     "ask a B", "Ask a b", "put A", "put a B", "put abcdefghi", "set_fan x Out 0-*", "set_fan x out0 0-*", "tie X 0 0", "least A 1", "ROOMS",
                     "new_kind a-b", "drop_kind ", "drop_door 0", "put 0", "put a 0", "put a b 1-2", "newkind d", "new-kind d", "new kind d"):
            self.no_line(self.kept, line)

    def test_numbers(self):
        for number in ("00", "01", "-1", "+1", "1.0", "one", "a", "0x1", "1_0", "", "-", "*", "1-2", " 1", "1e3"):
            self.no_line(self.kept, "strike " + number)
            self.no_line(self.kept, "tie y 0 " + number)
            self.no_line(self.kept, "tie y " + number + " 0")
            self.no_line(self.kept, "untie x 1 " + number)
            self.no_line(self.kept, "least a " + number)

    def test_fans(self):
        for fan in ("1", "12", "1-", "-2", "*-1", "*-*", "1--2", "01-2", "1-02", "10-2", "1-10", "1+2", "1:2", "(1,2)", "1-a", "a-2", "1-None", "1-2-3", "1-2*", ""):
            self.no_line(self.kept, "set_fan x out " + fan)
            self.no_line(self.kept, "new_door z a b " + fan + " 0-*")
            self.no_line(self.kept, "new_door z a b 0-* " + fan)

    def test_names_of_other_things(self):
        for line in ("", " ", "tried", "tries", "twin", "book", "house", "lot 0", "deeds", "say rooms", "log", "help", "alone", "done", "no line", "len", "-", "most a",
                     "core a b", "kinds a", "rule a b", "room a", "way x 0 0", "rooms\n", "back;", "ask a b?", "__len__", "back()", "least"):
            self.no_line(self.kept, line)

    def test_any_sign_in_the_place_of_each(self):
        lines = ("new_door z a b 0-* 1-1", "tie y 0 0", "ask a b")
        names = "abcdefghijklmnopqrstuvwxyz"
        for line in lines:
            for at in range(len(line)):
                for sign in SIGNS:
                    spoilt = line[:at] + sign + line[at + 1:]
                    told = Desk(self.hall.twin()).say(spoilt)
                    if sign == line[at]:
                        self.assertNotEqual(told, "no line")
                    elif line[at] in names and at > line.index(" "):
                        self.assertEqual(told == "no line", sign not in names, spoilt)
                    elif line[at] in "01*" and at > line.index(" "):
                        fits = sign in "0123456789" or sign == "*" and line[at - 1] == "-"
                        self.assertEqual(told == "no line", not fits, spoilt)
                    else:
                        self.assertEqual(told, "no line", spoilt)


class Logs(Desks):
    def test_the_last_20(self):
        desk, hall = self.desk()
        self.assertEqual(desk.log(), ())
        said = []
        for at in range(45):
            line = ("put c", "rooms", "no such", None, 7, ["rooms"], "strike 99")[at % 7]
            said.append((line if isinstance(line, str) else None, desk.say(line)))
            self.assertEqual(desk.log(), tuple(said[-20:]))
            self.assertIs(desk.log().__class__, tuple)

    def test_a_told_log_stays_as_it_is(self):
        desk, hall = self.desk()
        desk.say("put c")
        before = desk.log()
        kept = copy.deepcopy(before)
        for _ in range(30):
            desk.say("rooms")
        self.assertEqual(before, kept)
        self.assertEqual(before, (("put c", "done 0"),))

    def test_over_that_very_hall(self):
        desk, hall = self.desk()
        desk.say("put c")
        self.assertEqual(hall.rooms(), (0,))
        hall.put(("a",))
        self.says(desk, ("rooms", "0 1"), ("back", "done"))
        self.assertEqual(hall.rooms(), (0,))

    def test_two_desks_over_one_hall(self):
        one, hall = self.desk()
        other = Desk(hall)
        self.says(one, ("put c", "done 0"))
        self.says(other, ("put a", "done 1"), ("rooms", "0 1"))
        self.says(one, ("back", "done"), ("rooms", "0"))
        self.assertEqual(other.log(), (("put a", "done 1"), ("rooms", "0 1")))
        self.assertEqual(len(one.log()), 3)

    def test_a_desk_over_an_empty_hall_and_one_over_a_twin(self):
        desk, hall = self.desk()
        twin = Desk(hall.twin())
        twin.say("put c")
        self.assertEqual((hall.rooms(), desk.say("rooms"), twin.say("rooms")), ((), "-", "0"))

    def test_methods_stand_in_the_class(self):
        for name in ("__init__", "say", "log"):
            self.assertIn(name, vars(Desk))


if __name__ == "__main__":
    unittest.main()
