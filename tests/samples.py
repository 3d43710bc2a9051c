"""Books, odd things and plain searches that several tests share."""

import itertools
import random
from fractions import Fraction

LETTERS = "abcdef"


def nested(make, deep):
    """Something forty deep at most, made by wrapping."""
    thing = None
    for _ in range(deep):
        thing = make(thing)
    return thing


def odd_things():
    """Anything, of every kind that may be handed in."""
    return [
        None, True, False, 0, 1, -1, 2, 5, 10 ** 29, -(10 ** 29),
        "", "a", "A", "ab", "a b", "out", "rule", "ring", "a\n", "~" * 4000,
        (), ("a",), ("a", "b"), ("b", "a"), (0,), (0, 1), (1, None), (True, True), ((),), ((), (), ()),
        [], ["a"], [0], [[]], [("a", "b")],
        {}, {"a": 1}, {0: "a"}, {(): []}, {"low": 1, "high": None},
        nested(lambda thing: [thing], 39), nested(lambda thing: (thing,), 39), nested(lambda thing: {"a": thing}, 39),
    ]


def paths_of(thing, path=()):
    """The places of all parts within nested tuples, the whole one first."""
    yield path
    if isinstance(thing, tuple):
        for at, part in enumerate(thing):
            yield from paths_of(part, path + (at,))


def part_at(thing, path):
    for at in path:
        thing = thing[at]
    return thing


def replaced(thing, path, part):
    """The nested tuples with another part at that place."""
    if not path:
        return part
    at = path[0]
    return thing[:at] + (replaced(thing[at], path[1:], part),) + thing[at + 1:]


def of_other_make(thing):
    """Each (path, changed) with one part, at any depth, changed for an odd thing of another Python class."""
    for path in paths_of(thing):
        for odd in odd_things():
            if odd.__class__ is not part_at(thing, path).__class__:
                yield path, replaced(thing, path, odd)


def as_lists(thing):
    """Each nested tuple with one of its tuples, at any depth, as a list."""
    for path in paths_of(thing):
        part = part_at(thing, path)
        if isinstance(part, tuple):
            yield replaced(thing, path, list(part))


def all_tuples(thing):
    """Whether what is told is in tuples, down to the innermost."""
    if isinstance(thing, tuple):
        return all(all_tuples(part) for part in thing)
    return thing is None or thing.__class__ in (int, str, bool)


def subsets(kinds):
    """Every rising tuple of these kinds, the empty one too."""
    for many in range(len(kinds) + 1):
        yield from itertools.combinations(kinds, many)


def random_fan(rand, top):
    low = rand.randint(0, top)
    high = rand.choice([None] + list(range(max(1, low), top + 1)))
    return (low, high)


def random_book(rand, kinds=6, rules=10, doors=6, top=4):
    """A book of at most so many kinds, rules and doors."""
    names = tuple(LETTERS[:rand.randint(1, kinds)])
    pairs = list(itertools.permutations(names, 2))
    some_rules = rand.sample(pairs, rand.randint(0, min(rules, len(pairs))))
    some_doors = []
    for name in "stuvwx"[:rand.randint(0, doors)]:
        some_doors.append((name, rand.choice(names), rand.choice(names), random_fan(rand, top), random_fan(rand, top)))
    return (names, tuple(sorted(some_rules)), tuple(some_doors))


def random_books(seed, many, **bounds):
    rand = random.Random(seed)
    return [random_book(rand, **bounds) for _ in range(many)]


def plain_steps(book):
    """Steps told once more: (one, other, fraction, why)."""
    steps = [(low, high, Fraction(1), ("rule",)) for low, high in book[1]]
    for name, start, goal, (out_low, out_high), (into_low, into_high) in book[2]:
        if into_high is not None and out_low > 0:
            steps.append((start, goal, Fraction(into_high, out_low), ("out", name)))
        if out_high is not None and into_low > 0:
            steps.append((goal, start, Fraction(out_high, into_low), ("into", name)))
    return steps


def plain_rings(book):
    """All rings with the least kind first, by going through all orders of kinds; each with its product."""
    steps = plain_steps(book)
    between = {}
    for at, step in enumerate(steps):
        between.setdefault(step[:2], []).append(at)
    rings = []
    for many in range(1, len(book[0]) + 1):
        for order in itertools.permutations(book[0], many):
            if order[0] == min(order):
                choices = [between.get(pair, []) for pair in zip(order, order[1:] + order[:1])]
                rings.extend(itertools.product(*choices))
    return {ring: plain_product(steps, ring) for ring in rings}


def plain_product(steps, ring):
    worth = Fraction(1)
    for at in ring:
        worth *= steps[at][2]
    return worth


def turns_about(ring):
    """The ring with each of its steps as the first one."""
    return [ring[at:] + ring[:at] for at in range(len(ring))]


def raised_to_stand(book, numbers, strict=(), most=10 ** 6):
    """The least numbers from these on that stand, each pair (less, more) of strict unlike; None above most."""
    numbers = dict(numbers)
    changed = True
    while changed:
        changed = False
        for kind, least in wanted(book, numbers, strict):
            if numbers[kind] < least:
                numbers[kind] = least
                changed = True
                if least > most:
                    return None
    return numbers


def wanted(book, numbers, strict):
    """What each number must come to as the others are, read from the meaning of rules and doors."""
    for low, high in book[1]:
        yield high, numbers[low]
    for less, more in strict:
        yield more, numbers[less] + 1
    for name, start, goal, (out_low, out_high), (into_low, into_high) in book[2]:
        if numbers[start] > 0:
            yield goal, out_low
        if numbers[goal] > 0:
            yield start, into_low
        if into_high is not None:
            yield goal, -(-out_low * numbers[start] // into_high)
        if out_high is not None:
            yield start, -(-into_low * numbers[goal] // out_high)


def can_have_rooms(book, kind):
    """Whether some house that ends has a room of the kind, by numbers alone."""
    return raised_to_stand(book, {k: 1 if k == kind else 0 for k in book[0]}) is not None


def balanced_book(rand, kinds=6, rules=10, doors=6):
    """A book without bare kinds and with many rings of product 1: numbers of rooms are drawn that all steps keep."""
    names = tuple(LETTERS[:rand.randint(2, kinds)])
    rooms = {name: rand.choice((1, 2, 2, 2, 4)) for name in names}
    pairs = [pair for pair in itertools.permutations(names, 2) if rooms[pair[0]] <= rooms[pair[1]]]
    some_rules = rand.sample(pairs, min(len(pairs), rand.randint(1, rules)))
    some_doors = []
    for name in "stuvwx"[:rand.randint(0, doors)]:
        some_doors.append(balanced_door(rand, names, rooms, name))
    return (names, tuple(sorted(some_rules)), tuple(some_doors))


def balanced_door(rand, names, rooms, name):
    """A door with a step that these numbers of rooms keep, if twenty tries find one."""
    for _ in range(20):
        door = (name, rand.choice(names), rand.choice(names), random_fan(rand, 4), random_fan(rand, 4))
        steps = plain_steps((names, (), (door,)))
        if steps and all(rooms[one] <= worth * rooms[other] for one, other, worth, why in steps):
            return door
    return (name, names[0], names[0], (0, None), (0, None))


def balanced_books(seed, many, **bounds):
    rand = random.Random(seed)
    return [balanced_book(rand, **bounds) for _ in range(many)]


def wheel_book(rand):
    """A full book with as many rooms of each kind, whose rules lead round through all six in some order."""
    order = rand.sample(LETTERS, 6)
    wheel = list(zip(order, order[1:] + order[:1]))
    if rand.random() < 0.5:
        wheel.remove(rand.choice(wheel))
    others = [pair for pair in itertools.permutations(LETTERS, 2) if pair not in wheel]
    rules = wheel + rand.sample(others, rand.randint(0, 10 - len(wheel)))
    rooms = {name: 1 for name in LETTERS}
    doors = [balanced_door(rand, LETTERS, rooms, name) for name in "stuvwx"]
    return (tuple(LETTERS), tuple(sorted(rules)), tuple(doors))


def wheel_books(seed, many):
    rand = random.Random(seed)
    return [wheel_book(rand) for _ in range(many)]


def random_begun(rand, book, lots, most):
    """A begun house of at most so many rooms, each of one of these lots, with ways by chance between them."""
    many = rand.randint(0, most) if lots else 0
    rooms = tuple(rand.choice(lots) for _ in range(many))
    ways = set()
    doors = [rand.choice(book[2])[0] for _ in range(3)] if book[2] and many else []
    tops = rand.choice(((many, many), (1, many), (many, 1), (2, many), (many, 2)))
    for _ in range(rand.randint(0, 3 * many) if doors else 0):
        ways.add((rand.choice(doors), rand.randrange(min(many, tops[0])), rand.randrange(min(many, tops[1]))))
    return (rooms, tuple(sorted(ways)))


def thinned(rand, house, bar):
    """The begun house without ways that bar it, as that function tells it; a room of a bare kind may be left."""
    found = bar(house)
    while found is not None:
        rooms, ways = house
        room = found[1] if found[0] == "bare" else found[2]
        at_it = [way for way in ways if room in way[1:] and (found[0] == "bare" or way[0] == found[1])]
        if not at_it:
            return house
        left = rand.choice(at_it)
        house = (rooms, tuple(way for way in ways if way != left))
        found = bar(house)
    return house


def turning_book(rand):
    """A book of few rules, most of which doors with just as many ways out as into turn about."""
    names = tuple(LETTERS[:rand.randint(2, 6)])
    pairs = list(itertools.permutations(names, 2))
    rules = tuple(sorted(rand.sample(pairs, min(len(pairs), rand.randint(1, 5)))))
    doors = []
    for name in "stuvwx"[:rand.randint(1, 6)]:
        many = rand.randint(1, 4)
        ahead = (many, rand.choice([None] + list(range(many, 5))))
        behind = (rand.randint(0, many), many)
        high, low = rand.choice(rules)[::-1] if rand.random() < 0.7 else rand.choice(pairs)
        doors.append((name, high, low, ahead, behind) if rand.random() < 0.5 else (name, low, high, behind, ahead))
    return (names, rules, tuple(doors))


def turning_books(seed, many):
    rand = random.Random(seed)
    return [turning_book(rand) for _ in range(many)]


def mixed_books(seed, many):
    """Books of several makes: drawn, without bare kinds and with rings of product 1, and full ones."""
    books = random_books(seed, many) + random_books(seed + 1, many, rules=3, doors=3) + balanced_books(seed + 2, 2 * many)
    return books + turning_books(seed + 3, 2 * many) + wheel_books(seed + 4, max(1, many // 10))
