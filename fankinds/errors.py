"""The refusals, one class for each kind; the message of each is the class's own name, as a desk tells it."""


class FanError(ValueError):
    """Something is refused."""


class BadBook(FanError):
    """What was handed in is no book."""

    def __str__(self):
        return "BadBook"


class BadName(FanError):
    """What was handed in is no name."""

    def __str__(self):
        return "BadName"


class BadFan(FanError):
    """What was handed in as the fan of that side is none."""

    def __init__(self, side):
        self.side = side

    def __str__(self):
        return "BadFan"


class BadSide(FanError):
    """What was handed in is neither out nor into."""

    def __str__(self):
        return "BadSide"


class BadLot(FanError):
    """What was handed in is no lot of the book's kinds."""

    def __str__(self):
        return "BadLot"


class BadDeeds(FanError):
    """What was handed in is no tuple of deeds."""

    def __str__(self):
        return "BadDeeds"


class HasRow(FanError):
    """A row of rules leads there, so that it holds in every house."""

    def __init__(self, row):
        self.row = row

    def __str__(self):
        return "HasRow"


class TooGreat(FanError):
    """There would be more rooms than the bound."""

    def __init__(self, bound):
        self.bound = bound

    def __str__(self):
        return "TooGreat"


class NoneStand(FanError):
    """No numbers from the told ones on stand."""

    def __str__(self):
        return "NoneStand"


class NoParting(FanError):
    """Every room of the one kind, in every house that ends, is of the other."""

    def __str__(self):
        return "NoParting"


class NoCore(FanError):
    """The one kind doesn't lie within the other, so that nothing makes it so."""

    def __str__(self):
        return "NoCore"


class Barred(FanError):
    """That bars the house from being finished."""

    def __init__(self, bar):
        self.bar = bar

    def __str__(self):
        return "Barred"


class NoKind(FanError):
    """The book has no such kind."""

    def __init__(self, name):
        self.name = name

    def __str__(self):
        return "NoKind"


class NoRule(FanError):
    """The book has no such rule."""

    def __str__(self):
        return "NoRule"


class NoDoor(FanError):
    """The book has no such door."""

    def __init__(self, name):
        self.name = name

    def __str__(self):
        return "NoDoor"


class NoRoom(FanError):
    """The house has no such room."""

    def __init__(self, room):
        self.room = room

    def __str__(self):
        return "NoRoom"


class NoWay(FanError):
    """The house has no such way."""

    def __str__(self):
        return "NoWay"


class Taken(FanError):
    """It is there already."""

    def __init__(self, thing):
        self.thing = thing

    def __str__(self):
        return "Taken"


class Same(FanError):
    """A rule is of two unlike kinds."""

    def __str__(self):
        return "Same"


class InUse(FanError):
    """Something else needs it."""

    def __str__(self):
        return "InUse"


class Full(FanError):
    """The book has as many of these as the bound lets."""

    def __init__(self, bound):
        self.bound = bound

    def __str__(self):
        return "Full"


class Long(FanError):
    """As many deeds stand as may."""

    def __str__(self):
        return "Long"


class NothingBack(FanError):
    """No deed stands that could be undone."""

    def __str__(self):
        return "NothingBack"


class Busy(FanError):
    """The hall is amid deeds that are tried."""

    def __str__(self):
        return "Busy"


class Broken(FanError):
    """The deed with that number was refused, and with it all of them."""

    def __init__(self, at):
        self.at = at

    def __str__(self):
        return "Broken"


class NoText(FanError):
    """From that line on it is the text of nothing; None where it is no text at all."""

    def __init__(self, at):
        self.at = at

    def __str__(self):
        return "NoText"


class TooTold(FanError):
    """The number told is above the bound."""

    def __str__(self):
        return "TooTold"
