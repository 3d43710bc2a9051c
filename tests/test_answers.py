"""[18]: whether one kind lies within another."""

import itertools
import random
import unittest
from collections import Counter

from fankinds.answers import answer, right_answer
from fankinds.bare import bare_paper
from fankinds.houses import wrong_in
from fankinds.parting import parted, parting
from fankinds.errors import TooGreat
from fankinds.plans import plan_of
from fankinds.turned import long_row
from tests.plain import PlainBook
from tests.samples import (all_tuples, as_lists, balanced_books, mixed_books, nested, odd_things, of_other_make, random_books,
                           wheel_books)
from tests.test_parting import plainly_right as plainly_parted
from tests.test_plans import plainly_right as plainly_planned

ANY = (0, None)
# Steps: 0 a b, 1 b c (rules), 2 b a (x out, 1), 3 d d (y out, 1/2). So b is within a in every house that ends, d is bare.
BOOK = (
    ("a", "b", "c", "d"),
    (("a", "b"), ("b", "c")),
    (("x", "b", "a", (1, 1), (0, 1)), ("y", "d", "d", (2, 2), (1, 1))),
)
ROW = ("row", (("turned", "b", "a", (0, 2)),))
BARE = ("bare", (("ring", (3,)),))
EVER = ("ever", ("a", "b", "c"))
ENDED = ("ended", ROW, plan_of(BOOK, "b", "a"))
ENDED_BARE = ("ended", BARE, plan_of(BOOK, "d", "a"))
NOT = ("not", (("c",), (0, 0, 1, 0)))


class RightAnswer(unittest.TestCase):
    def yes(self, low, high, thing, book=BOOK):
        self.assertIs(right_answer(book, low, high, thing), True, repr(thing)[:300])

    def no(self, low, high, thing, book=BOOK):
        self.assertIs(right_answer(book, low, high, thing), False, repr(thing)[:300])

    def test_right(self):
        self.yes("a", "c", EVER)
        self.yes("b", "a", ENDED)
        self.yes("d", "a", ENDED_BARE)
        self.yes("c", "b", NOT)
        self.yes("a", "a", ("ever", ("a",)))

    def test_of_other_kinds(self):
        for low, high in itertools.product(BOOK[0], repeat=2):
            self.assertIs(right_answer(BOOK, low, high, EVER), (low, high) == ("a", "c"))
            self.assertIs(right_answer(BOOK, low, high, ENDED), (low, high) == ("b", "a"))
            self.assertIs(right_answer(BOOK, low, high, ENDED_BARE), low == "d" and high != "d")
            self.assertIs(right_answer(BOOK, low, high, NOT), low == "c" and high != "c")

    def test_rows(self):
        self.yes("c", "c", ("ever", ("c",)))
        self.no("c", "c", ("ended", ("row", ()), plan_of(BOOK, "c", "a")))
        for row in (("a", "c"), ("a", "b"), ("b", "c"), ("a", "b", "b", "c"), ("c", "b", "a"), (), (("a", "b", "c"),), ["a", "b", "c"], "abc"):
            self.no("a", "c", ("ever", row))
        self.no("b", "a", ("ever", ("b", "a")))

    def test_words_exchanged(self):
        for low, high, thing in (("a", "c", EVER), ("b", "a", ENDED), ("d", "a", ENDED_BARE), ("c", "b", NOT)):
            for word in ("ever", "ended", "not", "", "Ever", "row", "bare", None, True, 0, ("ever",), ["ever"], {}):
                self.assertIs(right_answer(BOOK, low, high, (word,) + thing[1:]), word == thing[0])
        self.no("b", "a", ("ended", ("bare", ROW[1]), ENDED[2]))
        self.no("d", "a", ("ended", ("row", BARE[1]), ENDED_BARE[2]))
        for word in ("ring", "ever", "long", None, 0, ("row",), ["row"]):
            self.no("b", "a", ("ended", (word, ROW[1]), ENDED[2]))
            self.no("d", "a", ("ended", (word, BARE[1]), ENDED_BARE[2]))

    def test_ended_where_a_row_leads_there(self):
        self.no("a", "b", ("ended", ("row", (("rule", "a", "b"),)), ENDED[2]))
        self.no("a", "c", ("ended", ("row", (("rule", "a", "b"), ("rule", "b", "c"))), plan_of(BOOK, "a", "d")))
        book = (BOOK[0], BOOK[1] + (("d", "a"),), BOOK[2])
        ring = ("ended", ("bare", (("ring", (4,)),)), ENDED_BARE[2])
        self.no("d", "a", ring, book)
        self.no("d", "a", ("ended", ("bare", bare_paper(book)), plan_of(BOOK, "d", "a")), book)
        self.yes("d", "a", ("ever", ("d", "a")), book)

    def test_a_bare_paper_that_does_not_make_low_bare(self):
        book = (BOOK[0] + ("e",), BOOK[1], BOOK[2] + (("z", "e", "e", (3, 3), (1, 1)),))
        plan = plan_of(book, "d", "a")
        self.yes("d", "a", ("ended", ("bare", (("ring", (3,)),)), plan), book)
        self.no("d", "a", ("ended", ("bare", (("ring", (5,)),)), plan), book)
        self.yes("d", "a", ("ended", ("bare", (("ring", (5,)), ("ring", (3,)))), plan), book)
        self.no("d", "a", ("ended", ("bare", ()), plan), book)
        self.no("d", "a", ("ended", ("bare", (("ring", (0,)),)), plan), book)
        self.no("b", "a", ("ended", ("bare", BARE[1]), ENDED[2]))

    def test_a_long_row_to_another_kind(self):
        for links in ((), (("rule", "b", "c"),), ROW[1] + (("rule", "a", "b"),), (("turned", "a", "b", (0, 2)),),
                      (("turned", "b", "a", (0,)),), (("turned", "b", "a", (0, 1)),), (("rule", "b", "a"),)):
            self.no("b", "a", ("ended", ("row", links), ENDED[2]))
        self.yes("b", "a", ("ended", ("row", ROW[1] + (("rule", "a", "b"),) + ROW[1]), ENDED[2]))

    def test_where_a_bare_kind_has_a_long_row_too(self):
        # a and b are bare by y; the ring of x still turns the rule.
        doors = (("x", "b", "a", (1, 1), (0, 1)), ("y", "b", "b", (2, 2), (1, 1)))
        book = (("a", "b"), (("a", "b"),), doors)
        plan = plan_of(book, "b", "a")
        self.yes("b", "a", ("ended", ("row", (("turned", "b", "a", (0, 1)),)), plan), book)
        self.yes("b", "a", ("ended", ("bare", bare_paper(book)), plan), book)

    def test_a_plan_that_is_not_right(self):
        for plan in ((), ENDED[2][:-1], ENDED[2][1:], ENDED[2][::-1], plan_of(BOOK, "c", "a"), plan_of(BOOK, "d", "a"), None, ROW,
                     list(ENDED[2]), "", 0, {}):
            self.no("b", "a", ("ended", ROW, plan))
        self.yes("b", "a", ("ended", ROW, plan_of(BOOK, "b", "d")))

    def test_a_parting_that_is_not_right(self):
        self.yes("c", "b", ("not", (("c",), (0, 0, 7, 0))))
        for parting_of in ((("c",), (0, 0, 0, 0)), (("b", "c"), (0, 0, 1, 0)), (("c",), (1, 1, 1, 0)), (("c",), (0, 0, 1, 1)),
                           (("c",), (0, 0, 1)), ((), (0, 0, 1, 0)), None, (), "c", 0):
            self.no("c", "b", ("not", parting_of))
        for numbers in itertools.product(range(3), repeat=4):
            self.no("b", "a", ("not", (("b", "c"), numbers)))
            self.no("d", "a", ("not", (("d",), numbers)))

    def test_parts_of_two_put_together(self):
        for one, other in itertools.permutations((EVER, ENDED, ENDED_BARE, NOT), 2):
            for at in range(1, len(one)):
                for part in other[1:]:
                    changed = one[:at] + (part,) + one[at + 1:]
                    for low, high in (("a", "c"), ("b", "a"), ("d", "a"), ("c", "b")):
                        if changed not in (EVER, ENDED, ENDED_BARE, NOT):
                            self.no(low, high, changed)

    def test_other_lengths(self):
        for low, high, thing in (("a", "c", EVER), ("b", "a", ENDED), ("d", "a", ENDED_BARE), ("c", "b", NOT)):
            for changed in (thing[:1], thing[:-1], thing[1:], thing + ((),), thing + (None,), (thing,), thing[::-1], list(thing), ()):
                self.no(low, high, changed)
        for paper in (ROW[:1], ROW[1:], ROW + ((),), (ROW,), list(ROW), None, (), "row"):
            self.no("b", "a", ("ended", paper, ENDED[2]))

    def test_odd_things(self):
        for thing in odd_things():
            for low, high in itertools.product(BOOK[0], repeat=2):
                self.no(low, high, thing)
            for word in ("ever", "ended", "not"):
                self.no("b", "a", (word, thing))
                self.no("b", "a", (word, thing, thing))
            self.no("b", "a", ("ended", thing, ENDED[2]))
            self.no("b", "a", ("ended", ROW, thing))
        self.no("b", "a", nested(lambda thing: (thing, thing), 10))
        self.no("b", "a", ("ended",) * 9000)

    def test_odd_parts_at_any_depth(self):
        for low, high, thing in (("a", "c", EVER), ("b", "a", ENDED), ("d", "a", ENDED_BARE), ("c", "b", NOT)):
            for path, changed in of_other_make(thing):
                # Where a came is None already nothing else may stand there, and a None elsewhere is nothing right.
                self.assertIs(right_answer(BOOK, low, high, changed), False, (path, repr(changed)[:200]))
            for changed in as_lists(thing):
                self.no(low, high, changed)


class Answer(unittest.TestCase):
    def check(self, book):
        plain = PlainBook(book)
        for low, high in itertools.product(book[0], repeat=2):
            told = answer(book, low, high)
            self.assertTrue(all_tuples(told))
            self.assertEqual(told[0], plain.word(low, high), (book, low, high))
            self.assertIs(right_answer(book, low, high, told), True, (book, low, high))
            self.papers(book, plain, low, high, told)
            self.assertEqual(answer(book, low, high), told)

    def papers(self, book, plain, low, high, told):
        """The papers once more by plain readings."""
        self.assertEqual(len(told), 3 if told[0] == "ended" else 2)
        if told[0] == "ended":
            self.assertTrue(plainly_planned(book, low, high, told[2]))
            self.assertEqual(told[1][0] == "bare", low in plain.bare)
            self.seen[told[1][0]] += 1
        elif told[0] == "not":
            self.assertTrue(plainly_parted(book, low, high, *told[1]))
            self.assertEqual(told[1], parting(book, low, high))
        else:
            self.assertTrue(all(pair in book[1] for pair in zip(told[1], told[1][1:])))
            self.assertEqual((told[1][0], told[1][-1]), (low, high))
        self.seen[told[0]] += 1

    def setUp(self):
        self.seen = Counter()

    def test_ordinary(self):
        self.check(BOOK)
        self.assertEqual(answer(BOOK, "a", "c"), EVER)
        self.assertEqual(answer(BOOK, "b", "a")[:2], ENDED[:2])
        self.assertEqual(answer(BOOK, "d", "a")[0], "ended")
        self.assertEqual(answer(BOOK, "c", "b"), NOT)
        self.assertEqual(long_row(BOOK, "b", "a"), ROW[1])

    def test_one_kind_and_itself(self):
        for book in mixed_books(211, 15) + [BOOK]:
            for kind in book[0]:
                self.assertEqual(answer(book, kind, kind), ("ever", (kind,)))

    def test_many_books(self):
        for book in mixed_books(212, 60):
            self.check(book)
        self.assertGreater(min(self.seen[word] for word in ("ever", "ended", "not", "row", "bare")), 100, self.seen)

    def test_full_books(self):
        rand = random.Random(216)
        for book in wheel_books(217, 6):
            self.check(book)
        pairs = list(itertools.permutations("abcdef", 2))
        for _ in range(6):
            doors = tuple((name, rand.choice("abcdef"), rand.choice("abcdef"), rand.choice(((1, 1), (2, 4), (0, 2), (1, None))),
                           rand.choice(((1, 1), (2, 4), (0, 2), (1, None)))) for name in "stuvwx")
            self.check((tuple("abcdef"), tuple(sorted(rand.sample(pairs, 10))), doors))
        self.assertGreater(self.seen["ever"], 100)

    def test_not_is_shown_by_a_house(self):
        shown = 0
        for book in random_books(218, 40) + balanced_books(219, 40):
            for low, high in itertools.permutations(book[0], 2):
                if answer(book, low, high)[0] == "not":
                    try:
                        house = parted(book, low, high)
                    except TooGreat:
                        continue
                    self.assertIsNone(wrong_in(book, house))
                    self.assertTrue(any(low in lot and high not in lot for lot in house[0]))
                    shown += 1
        self.assertGreater(shown, 300)

    def test_answers_of_other_books(self):
        rand = random.Random(220)
        books = mixed_books(221, 12)
        right = 0
        for book in books:
            plain = PlainBook(book)
            for other in rand.sample(books, 12):
                low, high = rand.choice(book[0]), rand.choice(book[0])
                one, two = rand.choice(other[0]), rand.choice(other[0])
                told = answer(other, one, two)
                if right_answer(book, low, high, told):
                    self.assertEqual(plain.word(low, high), told[0])
                    right += 1
        self.assertGreater(right, 20)

    def test_of_each_two_kinds_just_one_word_has_a_right_answer(self):
        """Papers of all words, from this book and from near ones, are handed in of each two kinds."""
        for book in random_books(222, 25, kinds=4, rules=5, doors=3) + balanced_books(223, 40, kinds=4):
            plain = PlainBook(book)
            near = [book] + [(book[0], book[1][:at] + book[1][at + 1:], book[2]) for at in range(len(book[1]))]
            near += [(book[0], book[1], book[2][:at] + book[2][at + 1:]) for at in range(len(book[2]))]
            pairs = list(itertools.product(book[0], repeat=2))
            papers = {answer(known, low, high) for known in near for low, high in pairs}
            for low, high in pairs:
                words = {paper[0] for paper in papers if right_answer(book, low, high, paper)}
                self.assertEqual(words, {plain.word(low, high)})


if __name__ == "__main__":
    unittest.main()
