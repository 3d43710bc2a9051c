"""[26]: books and houses as texts."""

import itertools
import random
import re
import unittest
from collections import Counter

from fankinds.books import is_book
from fankinds.errors import NoText
from fankinds.houses import is_house
from fankinds.texts import book_text, house_text, read_book, read_house
from tests.samples import all_tuples, mixed_books, odd_things, random_begun, random_books, subsets
from tests.test_houses import random_house

ANY = (0, None)
BOOK = (("a", "b", "c"), (("a", "b"), ("b", "a")), (("a", "b", "b", (0, 4), ANY), ("x", "a", "c", (1, 2), ANY)))
TEXT = "kinds a b c\nrule a b\nrule b a\ndoor a b b 0-4 0-*\ndoor x a c 1-2 0-*\n"
HOUSE = ((("a",), ("a", "b", "c"), ("c",)), (("a", 0, 2), ("a", 2, 1), ("x", 0, 0)))
HOUSE_TEXT = "room a\nroom a b c\nroom c\nway a 0 2\nway a 2 1\nway x 0 0\n"
NAME = "[a-z]{1,8}"
NUMBER = "(?:0|[1-9][0-9]*)"
SIGNS = "".join(map(chr, range(32, 127)))


def plain_book(lines):
    """The book of which these are all lines, or None."""
    kinds, rules, doors = (), [], []
    for at, line in enumerate(lines):
        if at == 0:
            if not re.fullmatch(f"kinds( {NAME}){{1,6}}", line):
                return None
            kinds = tuple(line.split(" ")[1:])
        elif re.fullmatch(f"rule {NAME} {NAME}", line) and not doors:
            rules.append(tuple(line.split(" ")[1:]))
        elif re.fullmatch(f"door {NAME} {NAME} {NAME} [0-4]-[1-4*] [0-4]-[1-4*]", line):
            name, start, goal, out, into = line.split(" ")[1:]
            fans = [(int(fan[0]), None if fan[2] == "*" else int(fan[2])) for fan in (out, into)]
            doors.append((name, start, goal, *fans))
        else:
            return None
    book = (kinds, tuple(rules), tuple(doors))
    return book if is_book(book) else None


def plain_house(book, lines):
    """The house of which these are all lines, or None."""
    rooms, ways = [], []
    for line in lines:
        if re.fullmatch(f"room( {NAME})+", line) and not ways:
            rooms.append(tuple(line.split(" ")[1:]))
        elif re.fullmatch(f"way {NAME} {NUMBER} {NUMBER}", line):
            name, one, other = line.split(" ")[1:]
            ways.append((name, int(one), int(other)))
        else:
            return None
    house = (tuple(rooms), tuple(ways))
    return house if is_house(book, house) else None


def plainly_wrong(text, read):
    """The number that NoText tells; None where the text is right. Here a text begins another where it is one itself."""
    lines = text.split("\n")
    for at in range(len(lines) - 1):
        if read(lines[:at + 1]) is None:
            return at
    if lines[-1] != "" or read(lines[:-1]) is None:
        return len(lines) - 1
    return None


class ToText(unittest.TestCase):
    def test_ordinary(self):
        self.assertEqual(book_text(BOOK), TEXT)
        self.assertEqual(house_text(HOUSE), HOUSE_TEXT)
        self.assertEqual(book_text((("a",), (), ())), "kinds a\n")
        self.assertEqual(house_text(((), ())), "")

    def test_there_and_back(self):
        rand = random.Random(451)
        for book in mixed_books(452, 25):
            text = book_text(book)
            self.assertEqual(plain_book(text.split("\n")[:-1]), book)
            self.assertEqual(read_book(text), book)
            self.assertEqual(book_text(read_book(text)), text)
            for _ in range(3):
                house = random_house(rand, book)
                text = house_text(house)
                self.assertEqual(plain_house(book, text.split("\n")[:-1]), house)
                self.assertEqual(read_house(book, text), house)
                self.assertTrue(all_tuples(read_house(book, text)))

    def test_up_to_the_bounds(self):
        kinds = ("aaaaaaaa", "b", "bb", "c", "d", "zzzzzzzz")
        rules = tuple(itertools.permutations(kinds, 2))[:10]
        doors = tuple((name, "b", "bb", (low, 4), (low, None)) for name, low in zip(("aaaaaaaa", "b", "c", "d", "e", "f"), (0, 1, 2, 3, 4, 4)))
        book = (kinds, rules, doors)
        self.assertEqual(read_book(book_text(book)), book)
        rooms = (kinds, ("b",)) * 150
        house = (rooms, tuple(sorted(("b", one, (7 * one) % 300) for one in range(300))))
        self.assertEqual(read_house(book, house_text(house)), house)
        with self.assertRaises(NoText) as caught:
            read_house(book, "room b\n" * 301)
        self.assertEqual(caught.exception.at, 300)

    def test_many_rooms_and_ways(self):
        book = (("a",), (), (("x", "a", "a", ANY, ANY),))
        house = ((("a",),) * 60, tuple(("x", one, other) for one in range(60) for other in range(60)))
        self.assertEqual(read_house(book, house_text(house)), house)


class Read(unittest.TestCase):
    def at(self, text, at, book=None):
        with self.assertRaises(NoText) as caught:
            read_book(text) if book is None else read_house(book, text)
        self.assertEqual(caught.exception.at, at, repr(text)[:200])
        self.assertIs(caught.exception.at.__class__, at.__class__)


class ReadBook(Read):
    def test_no_text(self):
        for thing in odd_things():
            if not isinstance(thing, str):
                self.at(thing, None)
                self.at(thing, None, BOOK)
        self.at(BOOK, None)
        self.at(HOUSE, None, BOOK)

    def test_empty(self):
        self.at("", 0)
        self.at("\n", 0)
        self.at("\n\n", 0)
        self.at(" ", 0)
        self.at(" \n", 0)

    def test_without_a_last_line_end(self):
        self.at("kinds a", 0)
        self.at(TEXT[:-1], 4)
        self.at("kinds a\nrule", 1)
        self.at("kinds a\nkinds a\nrule", 1)
        self.at("kinds a b\nrule a a\nrule a b", 1)
        self.at(TEXT + "door", 5)
        self.at(TEXT + " ", 5)

    def test_empty_lines(self):
        self.at(TEXT + "\n", 5)
        self.at("\n" + TEXT, 0)
        self.at("kinds a\n\nrule a b\n", 1)

    def test_the_kinds(self):
        for line in ("kinds", "kinds ", "kinds A", "kinds b a", "kinds a a", "kinds a  b", "kinds a b ", " kinds a", "kind a", "Kinds a", "kinds a1",
                     "kinds abcdefghi", "kinds a b c d e f g", "kinds\ta", "kindsa", "kinds a,b", "rule a b", "door x a a 0-* 0-*", "kinds a\r"):
            self.at(line + "\n", 0)
            self.at(line + "\nrule a b\n", 0)
        self.assertEqual(read_book("kinds a b c d e f\n")[0], tuple("abcdef"))

    def test_the_rules(self):
        for line in ("rule a", "rule", "rule a b c", "rule a a", "rule a d", "rule d a", "rule  a b", "rule a  b", "rule a b ", " rule a b", "Rule a b",
                     "rules a b", "rule A b", "rule a B", "kinds a b c", "rule abcdefghi b", "rule a\tb", "", "room a"):
            self.at("kinds a b c\n" + line + "\n", 1)
            self.at("kinds a b c\n" + line + "\nrule b c\n", 1)
        self.at("kinds a b\nrule b a\nrule a b\n", 2)
        self.at("kinds a b\nrule a b\nrule a b\n", 2)
        lines = ["rule " + " ".join(pair) for pair in itertools.permutations("abcd", 2)]
        self.assertEqual(len(read_book("kinds a b c d\n" + "\n".join(lines[:10]) + "\n")[1]), 10)
        self.at("kinds a b c d\n" + "\n".join(lines[:11]) + "\n", 11)
        self.at("kinds a b c d\n" + "\n".join(lines) + "\n", 11)

    def test_the_doors(self):
        right = "door x a c 1-2 0-*"
        head = "kinds a b c\nrule a b\n"
        self.assertEqual(read_book(head + right + "\n")[2], (("x", "a", "c", (1, 2), ANY),))
        for line in ("door", "door x", "door x a c 1-2", "door x a c 1-2 0-* 0-*", "door X a c 1-2 0-*", "door x d c 1-2 0-*", "door x a d 1-2 0-*",
                     "door x a c 2-1 0-*", "door x a c 0-0 0-*", "door x a c 0-5 0-*", "door x a c 5-* 0-*", "door x a c 01-2 0-*", "door x a c 1-02 0-*",
                     "door x a c 1 2 0-*", "door x a c 1- 0-*", "door x a c -2 0-*", "door x a c *-2 0-*", "door x a c 1-2 0", "door x a c 1-2 0-**",
                     "door x a c 1--2 0-*", "door x a c 1-None 0-*", "door x a c 1+2 0-*", "door  x a c 1-2 0-*", "door x a c 1-2  0-*", right + " ",
                     "door x a c (1,2) 0-*", "door x a c 1-2 -1-*", "Door x a c 1-2 0-*", "doors x a c 1-2 0-*", "door abcdefghi a c 1-2 0-*"):
            self.at(head + line + "\n", 2)
            self.at(head + line + "\n" + right + "\n", 2)
        self.at(head + right + "\n" + right + "\n", 3)
        self.at(head + right + "\ndoor a a a 0-* 0-*\n", 3)
        self.at(head + right + "\nrule b c\n", 3)
        doors = ["door " + name + " a a 0-* 0-*" for name in "stuvwxyz"]
        self.assertEqual(len(read_book(head + "\n".join(doors[:6]) + "\n")[2]), 6)
        self.at(head + "\n".join(doors[:7]) + "\n", 8)

    def test_all_fans(self):
        for low, high in itertools.product("0123456789", "*0123456789"):
            text = f"kinds a\ndoor x a a {low}-{high} {low}-{high}\n"
            right = int(low) <= 4 and (high == "*" or max(1, int(low)) <= int(high) <= 4)
            if right:
                fan = (int(low), None if high == "*" else int(high))
                self.assertEqual(read_book(text)[2], (("x", "a", "a", fan, fan),))
            else:
                self.at(text, 1)


class ReadHouse(Read):
    def wrong(self, text, at):
        self.at(text, at, BOOK)

    def test_empty(self):
        self.assertEqual(read_house(BOOK, ""), ((), ()))
        self.wrong("\n", 0)
        self.wrong(" ", 0)

    def test_without_a_last_line_end(self):
        self.wrong("room a", 0)
        self.wrong(HOUSE_TEXT[:-1], 5)
        self.wrong(HOUSE_TEXT + "way", 6)
        self.wrong("room a\nroom d\nroom", 1)

    def test_rooms(self):
        for line in ("room", "room ", "room d", "room A", "room b a", "room a a", "room a  b", "room a ", " room a", "rooms a", "Room a", "room x",
                     "room a b c d", "", "kinds a", "room 0", "room a,b"):
            self.wrong(line + "\n", 0)
            self.wrong("room a\n" + line + "\nroom a\n", 1)
        self.wrong("room a\nway a 0 0\nroom a\n", 2)
        self.wrong("room a\n\n", 1)

    def test_ways(self):
        head = "room a\nroom c\n"
        self.assertEqual(read_house(BOOK, head + "way x 0 1\n")[1], (("x", 0, 1),))
        for line in ("way", "way x", "way x 0", "way x 0 1 1", "way y 0 1", "way X 0 1", "way b 0 1", "way x 0 2", "way x 2 0", "way x -1 0", "way x 0 -1",
                     "way x 00 1", "way x 0 01", "way x +0 1", "way x 0 1.0", "way x 0 one", "way  x 0 1", "way x  0 1", "way x 0 1 ", " way x 0 1",
                     "Way x 0 1", "way x 0 10", "way x 0 " + "9" * 3900, "way x 0 " + "0" * 3900, "way x 0,1", "way 0 1 x", "way x 0 -0", "way x 0 1_0"):
            self.wrong(head + line + "\n", 2)
            self.wrong(head + line + "\nway x 0 1\n", 2)
        self.wrong(head + "way x 0 1\nway x 0 1\n", 3)
        self.wrong(head + "way x 0 1\nway x 0 0\n", 3)
        self.wrong(head + "way x 0 1\nway a 1 1\n", 3)
        self.wrong("way x 0 0\n", 0)
        self.wrong("way x 0 0\nroom a\n", 0)

    def test_ways_rise_by_numbers(self):
        book = (("a",), (), (("x", "a", "a", ANY, ANY),))
        head = "room a\n" * 12
        self.assertEqual(read_house(book, head + "way x 2 2\nway x 2 10\nway x 10 0\n")[1], (("x", 2, 2), ("x", 2, 10), ("x", 10, 0)))
        self.at(head + "way x 10 0\nway x 2 0\n", 13, book)
        self.at(head + "way x 2 10\nway x 2 2\n", 13, book)

    def test_for_another_book(self):
        other = (("a", "c"), (), (("x", "a", "c", ANY, ANY),))
        self.at(HOUSE_TEXT, 1, other)
        self.at("room a\nway a 0 0\n", 1, other)
        self.at(TEXT, 0, BOOK)
        self.at(HOUSE_TEXT, 0)

    def test_begun_houses(self):
        text = "room a\nway a 0 0\nway x 0 0\n"
        self.assertEqual(read_house(BOOK, text), ((("a",),), (("a", 0, 0), ("x", 0, 0))))


class Spoilt(Read):
    def judged(self, text, read, plain):
        at = plainly_wrong(text, plain)
        if at is None:
            self.assertEqual(read(text), plain(text.split("\n")[:-1]))
        else:
            with self.assertRaises(NoText) as caught:
                read(text)
            self.assertEqual(caught.exception.at, at, repr(text))
        self.seen[at is None] += 1

    def spoilt(self, rand, text):
        """The text with signs in the place of others, left out or put in, or with lines exchanged, left out or twice."""
        lines = text.split("\n")
        how = rand.random()
        at = rand.randrange(len(text)) if text else 0
        if how < 0.3:
            return text[:at] + rand.choice(SIGNS + "\n") + text[at + 1:]
        if how < 0.5:
            return text[:at] + text[at + 1:]
        if how < 0.6:
            return text[:at] + rand.choice(" \n0a1-*") + text[at:]
        if how < 0.7:
            return text[:at]
        one, other = rand.randrange(len(lines)), rand.randrange(len(lines))
        if how < 0.8:
            lines[one], lines[other] = lines[other], lines[one]
        elif how < 0.9:
            del lines[one]
        else:
            lines.insert(one, lines[other])
        return "\n".join(lines)

    def setUp(self):
        self.seen = Counter()

    def test_books(self):
        rand = random.Random(461)
        for book in random_books(462, 80) + [BOOK]:
            for _ in range(25):
                text = book_text(book)
                for _ in range(rand.choice((1, 1, 2, 3))):
                    text = self.spoilt(rand, text)
                self.judged(text, read_book, plain_book)
        self.assertGreater(min(self.seen.values()), 100)

    def test_houses(self):
        rand = random.Random(463)
        for book in random_books(464, 80, doors=4) + [BOOK]:
            lots = [lot for lot in subsets(book[0]) if lot]
            for _ in range(25):
                text = house_text(random_begun(rand, book, lots, 12))
                for _ in range(rand.choice((1, 1, 2))):
                    text = self.spoilt(rand, text)
                self.judged(text, lambda told: read_house(book, told), lambda lines: plain_house(book, lines))
        self.assertGreater(min(self.seen.values()), 100)

    def test_any_sign_in_the_place_of_each(self):
        for at in range(len(TEXT)):
            for sign in SIGNS:
                self.judged(TEXT[:at] + sign + TEXT[at + 1:], read_book, plain_book)
        for at in range(len(HOUSE_TEXT)):
            for sign in SIGNS:
                self.judged(HOUSE_TEXT[:at] + sign + HOUSE_TEXT[at + 1:], lambda told: read_house(BOOK, told),
                            lambda lines: plain_house(BOOK, lines))


if __name__ == "__main__":
    unittest.main()
