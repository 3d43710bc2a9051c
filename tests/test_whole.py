"""[3]: what holds of all that is asked, whatever is handed in."""

import copy
import random
import unittest

from fankinds.answers import answer, right_answer
from fankinds.bare import bare_by, bare_paper, living, right_bare
from fankinds.begun import bar, grown
from fankinds.books import fan_of, is_book
from fankinds.building import built
from fankinds.cores import core, right_core
from fankinds.dealing import dealt
from fankinds.desks import Desk
from fankinds.errors import FanError, NoneStand
from fankinds.exact import fan_paper, fans, right_fan_paper
from fankinds.finders import ByRounds, Finder, Plainly, finder
from fankinds.finish import finish_numbers, finished
from fankinds.forms import is_fan, is_lot, is_name
from fankinds.halls import Hall
from fankinds.houses import counts, is_house, wrong_in
from fankinds.least import least, next_number, raised, raises_to, right_raises
from fankinds.most import most
from fankinds.numbers import stands
from fankinds.parting import parted, parting, right_parting
from fankinds.plans import plan_of, right_plan
from fankinds.rings import is_ring, product, rings_of
from fankinds.rows import above, is_row, row_to
from fankinds.spare import right_spare, spare
from fankinds.steps import steps_of
from fankinds.texts import book_text, house_text, read_book, read_house
from fankinds.turned import long_row, lot_of, right_long
from fankinds.unfolding import unfolded
from tests.samples import all_tuples, balanced_books, nested, odd_things, random_books, subsets
from tests.test_houses import random_house

BOOK = (
    ("a", "b", "c", "d"),
    (("a", "b"), ("b", "c"), ("c", "a"), ("c", "d")),
    (("x", "a", "b", (2, 2), (1, 1)), ("y", "d", "d", (4, 4), (3, 3)), ("z", "a", "c", (1, 1), (1, 1))),
)
EVEN = balanced_books(71, 1)[0]
FREE = (("a", "b", "c"), (("a", "b"),), (("x", "b", "c", (1, 2), (1, 1)),))
JUDGES = {
    "is_name": is_name,
    "is_fan": is_fan,
    "is_lot": lambda thing: is_lot(BOOK, thing),
    "is_book": is_book,
    "is_house": lambda thing: is_house(BOOK, thing),
    "is_ring": lambda thing: is_ring(BOOK, thing),
    "right_bare": lambda thing: right_bare(BOOK, thing),
    "right_long": lambda thing: right_long(BOOK, "a", "b", thing),
    "is_row": lambda thing: is_row(BOOK, "a", "c", thing),
    "right_raises": lambda thing: right_raises(BOOK, (1, 0, 0, 2), thing),
    "right_plan": lambda thing: right_plan(BOOK, "d", "a", thing),
    "right_fan_paper": lambda thing: right_fan_paper(BOOK, "x", thing),
    "right_spare": lambda thing: right_spare(FREE, thing),
    "right_parting": lambda thing: right_parting(FREE, "b", "a", thing),
    "right_answer": lambda thing: right_answer(BOOK, "d", "a", thing),
    "right_answer of ever": lambda thing: right_answer(BOOK, "a", "c", thing),
    "right_answer of not": lambda thing: right_answer(FREE, "b", "a", thing),
    "right_core": lambda thing: right_core(BOOK, "d", "a", thing),
}
# Right raises, though none of the kinds are living and no numbers stand.
RAISES = (
    ("a", 1, ("told",)), ("b", 1, ("rule", "a")), ("b", 2, ("out", "x")), ("c", 2, ("rule", "b")), ("d", 2, ("told",)),
    ("d", 4, ("some", "out", "y")), ("a", 2, ("into", "z")), ("d", 6, ("out", "y")),
)


def random_thing(rand, deep):
    """Anything, drawn by chance, often near to what is right."""
    if deep == 0 or rand.random() < 0.2:
        return rand.choice([None, True, False, 0, 1, 2, 3, 4, -1, 10 ** 29, "", "a", "b", "c", "x", "out", "into", "rule", "ring",
                            "follow", "turned", "told", "some", "A b\n"])
    parts = [random_thing(rand, deep - 1) for _ in range(rand.randint(0, 5))]
    make = rand.random()
    if make < 0.75:
        return tuple(parts)
    if make < 0.9:
        return parts
    return {str(at): part for at, part in enumerate(parts)}


def changed_by_chance(rand, thing):
    """What is told, with some part changed."""
    if not isinstance(thing, tuple) or not thing or rand.random() < 0.1:
        return random_thing(rand, 3)
    at = rand.randrange(len(thing))
    how = rand.random()
    if how < 0.1:
        return list(thing)
    if how < 0.2:
        return thing[:at] + thing[at + 1:]
    if how < 0.3:
        return thing[:at] + thing[at:at + 1] + thing[at:]
    if how < 0.4:
        return thing[::-1]
    return thing[:at] + (changed_by_chance(rand, thing[at]),) + thing[at + 1:]


def right_things():
    house = ((("a", "b", "c", "d"), ("d",)), (("x", 0, 0), ("y", 1, 1)))
    told = [BOOK, house, bare_paper(BOOK), steps_of(BOOK), rings_of(BOOK), (("rule", "a", "b"),), ("a", "b"), (1, 2)]
    told += [("turned", "b", "a", (0, 1, 2)), (("rule", "a", "b"), ("turned", "b", "a", (0, 1, 2)), ("rule", "a", "b"))]
    told += [("a", "b", "c"), ("a",), RAISES, (1, 0, 0, 2), plan_of(BOOK, "d", "a"), fan_paper(BOOK, "x"), spare(FREE)]
    told += [parting(FREE, "b", "a"), parted(FREE, "b", "a"), fans(BOOK)]
    told += [answer(BOOK, "d", "a"), answer(BOOK, "a", "c"), answer(FREE, "b", "a"), answer(FREE, "a", "b")]
    told += [core(BOOK, "d", "a"), core(BOOK, "a", "c")]
    return told + list(rings_of(BOOK))


class OfAnything(unittest.TestCase):
    def ask(self, thing):
        for name, judge in JUDGES.items():
            kept = copy.deepcopy(thing)
            told = judge(thing)
            self.assertIn(told.__class__, (bool,), name)
            self.assertIs(judge(thing), told, name)
            self.assertEqual(repr(thing), repr(kept), name)
            self.seen.add((name, told))

    def setUp(self):
        self.seen = set()

    def test_odd_things(self):
        for thing in odd_things():
            self.ask(thing)

    def test_said_to_a_desk(self):
        rand = random.Random(77)
        desk = Desk(Hall(BOOK))
        for thing in odd_things() + [random_thing(rand, 4) for _ in range(400)] + right_things() + [desk, Hall(BOOK), BOOK]:
            kept = repr(thing)
            self.assertEqual(desk.say(thing), "no line")
            self.assertEqual(repr(thing), kept)

    def test_things_by_chance(self):
        rand = random.Random(72)
        for _ in range(1500):
            self.ask(random_thing(rand, 5))

    def test_what_is_told_with_parts_changed(self):
        rand = random.Random(73)
        for thing in right_things() + ["a"]:
            self.ask(thing)
            for _ in range(150):
                self.ask(changed_by_chance(rand, thing))
        self.assertEqual(len(self.seen), 2 * len(JUDGES))

    def test_deep_and_wide(self):
        for make in (lambda thing: [thing], lambda thing: (thing,), lambda thing: {"a": thing}, lambda thing: (thing, thing)):
            self.ask(nested(make, 12))
        for make in (lambda thing: [thing], lambda thing: (thing,), lambda thing: {"a": thing}):
            self.ask(nested(make, 40))
        for part in (0, "a", None, (), [], {}, ("ring", (0,)), ("rule", "a", "b"), ("a", "b")):
            self.ask((part,) * 9000)
            self.ask([part] * 9000)

    def test_what_finders_are(self):
        for made in (Finder, Plainly, ByRounds):
            for judge in JUDGES.values():
                self.assertIs(judge(made(BOOK)), False)
                self.assertIs(judge((made(BOOK),)), False)

    def test_what_halls_and_desks_are(self):
        for thing in (Hall(BOOK), Desk(Hall(BOOK))):
            for judge in JUDGES.values():
                self.assertIs(judge(thing), False)
                self.assertIs(judge((thing, thing)), False)
                self.assertIs(judge((thing, thing, thing)), False)


def all_told(book, house):
    """All that is asked of a book, with its answers."""
    told = [steps_of(book), rings_of(book), bare_paper(book), living(book), wrong_in(book, house), counts(book, house)]
    told += [product(book, ring) for ring in rings_of(book)]
    told += [fan_of(book, door[0], side) for door in book[2] for side in ("out", "into")]
    told.append(bare_by(book, bare_paper(book)))
    told += [lot_of(book, kind) for kind in living(book)]
    told += [long_row(book, low, high) for low in living(book) for high in book[0]]
    told += [above(book, low) for low in book[0]] + [row_to(book, low, high) for low in book[0] for high in book[0]]
    told += [dealt(tuple(range(9)), tuple(range(7, 16)), door[3], door[3]) for door in book[2]]
    told += numbers_told(book) + [fans(book), spare(book)] + [fan_paper(book, door[0]) for door in book[2]]
    told += [kinds_told(book, low, high) for low in book[0] for high in book[0]]
    told += [built(book, numbers) for numbers in ((0,) * len(book[0]), spare(book)) if max(numbers) <= 300]
    told += [most(book, told_most) for told_most in ((None,) * len(book[0]), (7,) * len(book[0]))]
    told += [book_text(book), read_book(book_text(book)), house_text(house), read_house(book, house_text(house))]
    told += [grown(book, house), bar(book, house)] + [refused_or_told(ask, book, house) for ask in (finish_numbers, finished)]
    for seeker in (Finder(book), Plainly(book), ByRounds(book), finder(book)):
        for lot in subsets(book[0]):
            told += [seeker.below(lot), seeker.below(lot)]
            if Plainly(book).below(lot) is None:
                told += [seeker.even(lot, step) for step in range(len(steps_of(book)))]
    return told


def numbers_told(book):
    """All that is asked of told numbers, with its answers."""
    told = [next_number(book, kind, n) for kind in book[0] for n in (0, 1, 7)]
    for numbers in ((0,) * len(book[0]), (3,) * len(book[0]), tuple(5 * (kind in living(book)) for kind in book[0])):
        told += [least(book, numbers), stands(book, numbers)]
        try:
            told += [raises_to(book, numbers), raised(book, raises_to(book, numbers))]
        except NoneStand:
            told.append(None)
    return told


def kinds_told(book, low, high):
    """All that is asked of two kinds, with its answers."""
    told = [parting(book, low, high), answer(book, low, high)]
    if row_to(book, low, high) is None:
        told += [refused_or_told(unfolded, book, plan_of(book, low, high), deep) for deep in (0, 2, 6)]
    return tuple(told + [refused_or_told(ask, book, low, high) for ask in (plan_of, parted, core)])


def refused_or_told(ask, *things):
    """What is told; of what is refused the class's name and its field."""
    try:
        return ask(*things)
    except FanError as refusal:
        return (refusal.__class__.__name__,) + tuple(vars(refusal).values())


class WhatIsTold(unittest.TestCase):
    def test_in_tuples_and_twice_alike(self):
        rand = random.Random(74)
        for book in [BOOK, EVEN] + random_books(75, 25, kinds=4, rules=4, doors=3) + balanced_books(76, 15, kinds=4):
            house = random_house(rand, book)
            kept = copy.deepcopy((book, house))
            told = all_told(book, house)
            self.assertTrue(all(all_tuples(answer) for answer in told))
            self.assertEqual(all_told(book, house), told)
            self.assertEqual((book, house), kept)

    def test_a_finder_asked_twice(self):
        for make in (Plainly, ByRounds):
            seeker = make(EVEN)
            lots = list(subsets(EVEN[0]))
            once = [seeker.below(lot) for lot in lots]
            evens = [seeker.even(EVEN[0], step) for step in range(len(steps_of(EVEN)))]
            self.assertEqual([seeker.below(lot) for lot in lots], once)
            self.assertEqual([seeker.even(EVEN[0], step) for step in range(len(steps_of(EVEN)))], evens)

    def test_where_each_stands(self):
        for told, module in ((is_name, "forms"), (is_fan, "forms"), (is_lot, "forms"), (is_book, "books"), (fan_of, "books"),
                             (is_house, "houses"), (wrong_in, "houses"), (counts, "houses"), (steps_of, "steps"),
                             (is_ring, "rings"), (product, "rings"), (rings_of, "rings"), (Finder, "finders"),
                             (Plainly, "finders"), (ByRounds, "finders"), (finder, "finders"), (right_bare, "bare"),
                             (bare_by, "bare"), (bare_paper, "bare"), (living, "bare"), (right_long, "turned"),
                             (long_row, "turned"), (lot_of, "turned"), (is_row, "rows"), (above, "rows"), (row_to, "rows"),
                             (dealt, "dealing"), (stands, "numbers"), (least, "least"), (right_raises, "least"),
                             (raised, "least"), (raises_to, "least"), (next_number, "least"), (right_plan, "plans"),
                             (plan_of, "plans"), (fans, "exact"), (fan_paper, "exact"), (right_fan_paper, "exact"),
                             (spare, "spare"), (right_spare, "spare"), (right_parting, "parting"), (parting, "parting"),
                             (parted, "parting"),
                             (built, "building"), (answer, "answers"), (right_answer, "answers"), (grown, "begun"), (bar, "begun"),
                             (finish_numbers, "finish"), (finished, "finish"), (Hall, "halls"), (unfolded, "unfolding"), (most, "most"),
                             (core, "cores"), (right_core, "cores"), (book_text, "texts"), (house_text, "texts"), (read_book, "texts"),
                             (read_house, "texts"), (Desk, "desks")):
            self.assertEqual(told.__module__, "fankinds." + module)


if __name__ == "__main__":
    unittest.main()
