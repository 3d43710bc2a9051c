"""Two ways to find rings of product below 1, or just 1, within a lot."""

from fankinds.ratios import ONE, is_less, times
from fankinds.rings import product, rings_of
from fankinds.steps import ones_of, steps_of


class Finder:
    """Finds rings of a book; this one itself finds none."""

    def __init__(self, book):
        self.steps = steps_of(book)

    def below(self, lot):
        """A ring within the lot of product below 1; None where there is none."""
        return None

    def even(self, lot, step):
        """A ring within the lot of product 1 that begins with that step; None where there is none."""
        return None


class Plainly(Finder):
    """Goes through all rings."""

    def __init__(self, book):
        Finder.__init__(self, book)
        self.rings = [(ring, product(book, ring)) for ring in rings_of(book)]

    def below(self, lot):
        """A ring within the lot of product below 1; None where there is none."""
        for ring, ratio in self.rings:
            if is_less(ratio, ONE) and is_within(self.steps, ring, lot):
                return ring
        return None

    def even(self, lot, step):
        """A ring within the lot of product 1 that begins with that step; None where there is none."""
        for ring, ratio in self.rings:
            if step in ring and ratio == ONE and is_within(self.steps, ring, lot):
                first = ring.index(step)
                return ring[first:] + ring[:first]
        return None


class ByRounds(Finder):
    """Goes round by round through the least products of rows of steps, each round with one step more."""

    def __init__(self, book):
        Finder.__init__(self, book)

    def below(self, lot):
        """A ring within the lot of product below 1; None where there is none."""
        before = {kind: (ONE, ()) for kind in lot}
        best = before
        for many in range(len(lot)):
            before = best
            best = next_round(self.steps, lot, before)
        # A row of as many steps as there are kinds comes to one twice; were what lies between
        # not below 1, the row without it would have been as good in an earlier round.
        for kind in lot:
            if is_less(best[kind][0], before[kind][0]):
                return ring_in(self.steps, best[kind][1])
        return None

    def even(self, lot, step):
        """A ring within the lot of product 1 that begins with that step; None where there is none."""
        one, other = self.steps[step][:2]
        if one not in lot or other not in lot:
            return None
        best = {other: (ONE, ())}
        for many in range(len(lot)):
            best = next_round(self.steps, lot, best)
        if one not in best:
            return None
        # No ring is below 1, so the least row back to the step's one comes to no kind twice.
        ratio, row = best[one]
        if times(ratio, self.steps[step][2:4]) != ONE:
            return None
        return (step,) + row


def finder(book):
    """The finder that the rest of the program uses."""
    return ByRounds(book)


def is_within(steps, ring, lot):
    """Whether all the ring's kinds are in the lot."""
    return all([kind in lot for kind in ones_of(steps, ring)])


def next_round(steps, lot, before):
    """For each kind the least product, with its row, of the rows told and of those with one step more."""
    best = {kind: before[kind] for kind in before}
    for at, step in enumerate(steps):
        one, other = step[:2]
        if one in before and other in lot:
            ratio = times(before[one][0], step[2:4])
            if other not in best or is_less(ratio, best[other][0]):
                best[other] = (ratio, before[one][1] + (at,))
    return best


def ring_in(steps, row):
    """A ring that is a part of the row of steps, which comes to some kind twice."""
    kinds = ones_of(steps, row) + [steps[row[-1]][1]]
    first = {}
    for place, kind in enumerate(kinds):
        if kind in first:
            return row[first[kind]:place]
        first[kind] = place
    return None
