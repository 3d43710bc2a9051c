"""Steps: in a house that ends the rooms of one kind are at most so many times those of another."""

from fankinds.books import SIDES, end_of, fan_at, other_side
from fankinds.ratios import reduced


def steps_of(book):
    """The steps of the rules, in order, then of the doors, of each out ahead of into."""
    steps = [(low, high, 1, 1, ("rule",)) for low, high in book[1]]
    for door in book[2]:
        steps.extend(door_steps(door))
    return tuple(steps)


def door_steps(door):
    """The door's steps, of its ways seen from out, then from into."""
    steps = []
    for side in SIDES:
        far = other_side(side)
        fewest = fan_at(door, side)[0]
        most = fan_at(door, far)[1]
        if most is not None and fewest > 0:
            n, d = reduced(most, fewest)
            steps.append((end_of(door, side), end_of(door, far), n, d, (side, door[0])))
    return steps


def rule_step(book, low, high):
    """The number of the step of the rule (low, high): the rules' steps come first, in their order."""
    return book[1].index((low, high))


def steps_by(book, name):
    """The numbers of the steps of the door of that name."""
    return [at for at, step in enumerate(steps_of(book)) if step[4][1:] == (name,)]


def ones_of(steps, numbers):
    """The ones of the steps with these numbers."""
    return [steps[at][0] for at in numbers]
