"""The errors of the package. Each one keeps, as attributes, what it was called with."""


class RiverError(ValueError):
    """The base class of all errors of the package."""


class BadName(RiverError):
    """A string is not a name."""

    def __init__(self, name):
        self.name = name


class DuplicateName(RiverError):
    """A name stands twice where each name may stand once."""

    def __init__(self, name):
        self.name = name


class BadCount(RiverError):
    """There are too many or too few of something."""

    def __init__(self, what, many):
        self.what = what
        self.many = many


class BadNumber(RiverError):
    """An integer is outside of its range, or a bool stands in its place."""

    def __init__(self, number):
        self.number = number


class BadKind(RiverError):
    """A word is none of those that are known at its place."""

    def __init__(self, kind):
        self.kind = kind


class BadRoom(RiverError):
    """The room of a town is outside of its range."""

    def __init__(self, town):
        self.town = town


class BadLiking(RiverError):
    """The liking of a town does not hold every thing exactly once."""

    def __init__(self, town):
        self.town = town


class Ring(RiverError):
    """The sea is not reached from a town."""

    def __init__(self, town):
        self.town = town


class TownNeeded(RiverError):
    """A town cannot be taken out."""

    def __init__(self, town):
        self.town = town


class BadOutlet(RiverError):
    """A part or a piece does not have exactly one outlet."""


class NotComparable(RiverError):
    """Two pieces do not fit to each other."""


class OtherRiver(RiverError):
    """Two worlds have different rivers."""


class NothingToUndo(RiverError):
    """The log of a book is empty."""


class ClaimRefused(RiverError):
    """A claim is not good with its paper."""


class UnknownTown(RiverError):
    """The river has no town of this name."""

    def __init__(self, town):
        self.town = town


class UnknownThing(RiverError):
    """The river has no thing of this name."""

    def __init__(self, thing):
        self.thing = thing


class BadPlace(RiverError):
    """The place of a thing is missing or wrong."""

    def __init__(self, thing):
        self.thing = thing


class BadText(RiverError):
    """A line of a text is at fault."""

    def __init__(self, line):
        self.line = line


class BadOrder(RiverError):
    """A word of an order cannot stand at its position."""

    def __init__(self, at):
        self.at = at


class TooMany(RiverError):
    """There is more to go through than the limit allows."""

    def __init__(self, limit):
        self.limit = limit


class DeedRefused(RiverError):
    """A deed of a list is refused."""

    def __init__(self, at, cause):
        self.at = at
        self.cause = cause


class OrderRefused(RiverError):
    """The run of an order is refused."""

    def __init__(self, spot, cause):
        self.spot = spot
        self.cause = cause


class LogRefused(RiverError):
    """A row of a log is refused."""

    def __init__(self, at):
        self.at = at


class NoFit(RiverError):
    """A diary has no fit."""

    def __init__(self, at):
        self.at = at


class NotSimple(RiverError):
    """A diary is not simple."""

    def __init__(self, at):
        self.at = at


class NotAfloat(RiverError):
    """A thing cannot land. Only the two classes under this one are raised."""

    def __init__(self, thing):
        self.thing = thing


class ThingKept(NotAfloat):
    """A thing cannot land because a town keeps it."""

    def __init__(self, thing, town):
        self.thing = thing
        self.town = town


class ThingAtSea(NotAfloat):
    """A thing cannot land because it is in the sea."""

    def __init__(self, thing):
        self.thing = thing


class LandingError(RiverError):
    """Something is wrong with a landing. Only the classes under this one are raised."""

    def __init__(self, landing):
        self.landing = landing


class UnknownLanding(LandingError):
    """The river has no such landing."""

    def __init__(self, landing):
        self.landing = landing


class DuplicateLanding(LandingError):
    """A landing stands twice in a list."""

    def __init__(self, landing):
        self.landing = landing


class NotStage(LandingError):
    """A list of landings is not a stage; this landing of it can never be done."""

    def __init__(self, landing):
        self.landing = landing


class NoHistory(LandingError):
    """There is no history between two stages; the first has this landing more."""

    def __init__(self, landing):
        self.landing = landing


class NeverDone(LandingError):
    """A landing is not in the end."""

    def __init__(self, landing):
        self.landing = landing


class SameLanding(LandingError):
    """A landing is compared with itself."""

    def __init__(self, landing):
        self.landing = landing


class WrongEnd(LandingError):
    """A history does not lead to the stage that is asked for."""

    def __init__(self, landing):
        self.landing = landing
