"""The refusals, one class for each kind."""


class FanError(ValueError):
    """Something is refused."""


class BadBook(FanError):
    """What was handed in is no book."""


class BadName(FanError):
    """What was handed in is no name."""


class BadFan(FanError):
    """What was handed in as the fan of that side is none."""

    def __init__(self, side):
        self.side = side


class BadSide(FanError):
    """What was handed in is neither out nor into."""


class BadLot(FanError):
    """What was handed in is no lot of the book's kinds."""


class BadDeeds(FanError):
    """What was handed in is no tuple of deeds."""


class HasRow(FanError):
    """A row of rules leads there, so that it holds in every house."""

    def __init__(self, row):
        self.row = row


class TooGreat(FanError):
    """There would be more rooms than the bound."""

    def __init__(self, bound):
        self.bound = bound


class NoneStand(FanError):
    """No numbers from the told ones on stand."""


class NoParting(FanError):
    """Every room of the one kind, in every house that ends, is of the other."""


class NoCore(FanError):
    """The one kind doesn't lie within the other, so that nothing makes it so."""


class Barred(FanError):
    """That bars the house from being finished."""

    def __init__(self, bar):
        self.bar = bar


class NoKind(FanError):
    """The book has no such kind."""

    def __init__(self, name):
        self.name = name


class NoRule(FanError):
    """The book has no such rule."""


class NoDoor(FanError):
    """The book has no such door."""

    def __init__(self, name):
        self.name = name


class NoRoom(FanError):
    """The house has no such room."""

    def __init__(self, room):
        self.room = room


class NoWay(FanError):
    """The house has no such way."""


class Taken(FanError):
    """It is there already."""

    def __init__(self, thing):
        self.thing = thing


class Same(FanError):
    """A rule is of two unlike kinds."""


class InUse(FanError):
    """Something else needs it."""


class Full(FanError):
    """The book has as many of these as the bound lets."""

    def __init__(self, bound):
        self.bound = bound


class Long(FanError):
    """As many deeds stand as may."""


class NothingBack(FanError):
    """No deed stands that could be undone."""


class Busy(FanError):
    """The hall is amid deeds that are tried."""


class Broken(FanError):
    """The deed with that number was refused, and with it all of them."""

    def __init__(self, at):
        self.at = at


class NoText(FanError):
    """From that line on it is the text of nothing; None where it is no text at all."""

    def __init__(self, at):
        self.at = at


class TooTold(FanError):
    """The number told is above the bound."""
