"""The interface's dealt: fewest pairs, as the fans tell."""

import itertools
import random
import unittest
from collections import Counter

from fankinds.dealing import dealt
from tests.samples import all_tuples

FANS = [(low, high) for low in range(5) for high in [None, 1, 2, 3, 4] if high is None or high >= low]


def can_deal(ones, others, out, into):
    """Whether there are such pairs, told by how many there are on each side."""
    if ones and out[0] > others or others and into[0] > ones:
        return False
    by_out = into[1] is None or out[0] * ones <= into[1] * others
    by_into = out[1] is None or into[0] * others <= out[1] * ones
    return by_out and by_into


def lets(fan, many):
    return fan[0] <= many and (fan[1] is None or many <= fan[1])


def is_dealt(pairs, ones, others, out, into):
    outs = Counter(one for one, other in pairs)
    intos = Counter(other for one, other in pairs)
    return all(lets(out, outs[one]) for one in ones) and all(lets(into, intos[other]) for other in others)


def searched(ones, others, out, into):
    """How many pairs there are at the fewest, by going through all choices; None where there are none."""
    pairs = list(itertools.product(ones, others))
    for many in range(len(pairs) + 1):
        if any(is_dealt(some, ones, others, out, into) for some in itertools.combinations(pairs, many)):
            return many
    return None


class Dealt(unittest.TestCase):
    def check(self, ones, others, out, into):
        pairs = dealt(ones, others, out, into)
        self.assertTrue(all_tuples(pairs))
        self.assertTrue(all(one < other for one, other in zip(pairs, pairs[1:])))
        self.assertTrue(all(len(pair) == 2 and pair[0] in ones and pair[1] in others for pair in pairs))
        self.assertTrue(is_dealt(pairs, ones, others, out, into), (ones, others, out, into))
        # Each one wants out's low, each other into's low: fewer than either in all would not do.
        self.assertEqual(len(pairs), max(out[0] * len(ones), into[0] * len(others)))
        self.assertEqual(dealt(ones, others, out, into), pairs)

    def test_none(self):
        for out, into in itertools.product(FANS, repeat=2):
            self.assertEqual(dealt((), (), out, into), ())
        self.assertEqual(dealt((1, 2), (), (0, 3), (4, 4)), ())
        self.assertEqual(dealt((), (1, 2), (4, 4), (0, None)), ())

    def test_ordinary(self):
        self.assertEqual(dealt((5,), (7,), (1, 1), (1, 1)), ((5, 7),))
        self.assertEqual(dealt((3,), (9, 4), (2, 2), (1, 1)), ((3, 4), (3, 9)))
        self.assertEqual(dealt((8, 2), (3,), (0, 1), (2, 2)), ((2, 3), (8, 3)))
        self.assertEqual(dealt((1, 2), (1, 2), (2, 2), (2, 2)), ((1, 1), (1, 2), (2, 1), (2, 2)))
        self.assertEqual(dealt((1, 2), (1, 2), (0, None), (0, None)), ())

    def test_against_all_choices(self):
        fans = [fan for fan in FANS if fan[0] <= 3 and fan[1] in (None, 1, 2, 3)]
        for ones, others in itertools.product(range(4), range(3)):
            rooms = (tuple(range(ones)), tuple(range(others)))
            for out, into in itertools.product(fans, repeat=2):
                fewest = searched(*rooms, out, into)
                self.assertIs(fewest is not None, can_deal(ones, others, out, into))
                if fewest is not None:
                    self.assertEqual(len(dealt(*rooms, out, into)), fewest)
                    self.check(*rooms, out, into)

    def test_all_fans_and_many_rooms(self):
        sizes = list(itertools.product(range(13), repeat=2)) + [(40, 40), (40, 10), (10, 40), (39, 37), (13, 40), (40, 30), (1, 40)]
        seen = Counter()
        for ones, others in sizes:
            for out, into in itertools.product(FANS, repeat=2):
                if can_deal(ones, others, out, into):
                    self.check(tuple(range(ones)), tuple(range(others)), out, into)
                    seen[ones == 40 or others == 40] += 1
        self.assertGreater(seen[True], 500)

    def test_unlike_numbers_in_any_order(self):
        rand = random.Random(91)
        for _ in range(400):
            ones = tuple(rand.sample(range(300), rand.randint(0, 40)))
            others = ones if rand.random() < 0.3 else tuple(rand.sample(range(300), rand.randint(0, 40)))
            out, into = rand.choice(FANS), rand.choice(FANS)
            if can_deal(len(ones), len(others), out, into):
                self.check(ones, others, out, into)

    def test_the_same_rooms(self):
        for many in range(41):
            rooms = tuple(range(many))
            for out, into in itertools.product(FANS, repeat=2):
                if many in (0, 1, 2, 3, 4, 5, 40) and can_deal(many, many, out, into):
                    self.check(rooms, rooms, out, into)
            if many >= 3:
                self.check(rooms, rooms, (3, 3), (3, 3))


if __name__ == "__main__":
    unittest.main()
