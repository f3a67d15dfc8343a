"""Checks of arguments by their role, used by every other module."""

from riverkeeps.errors import BadCount, BadNumber, DuplicateLanding, UnknownLanding, UnknownThing, UnknownTown

MAX_PAIRS = 20


def check_number(number, low, high):
    """Raise BadNumber unless the integer is in low to high; a bool is no number here."""
    if isinstance(number, bool) or not low <= number <= high:
        raise BadNumber(number)


def check_town(river, town):
    """Raise UnknownTown unless the river has the town."""
    if town not in river.towns:
        raise UnknownTown(town)


def check_thing(river, thing):
    """Raise UnknownThing unless the river has the thing."""
    if thing not in river.things:
        raise UnknownThing(thing)


def check_landing(river, landing):
    """Raise UnknownLanding unless the river has the landing."""
    # The number itself does not matter here; asking for it checks the landing.
    river.landing_number(landing)


def check_landings(river, landings):
    """Raise UnknownLanding or DuplicateLanding for the first wrong item of the list."""
    known = {landing: True for landing in river.landings()}
    seen = {}
    for landing in landings:
        if landing not in known:
            raise UnknownLanding(landing)
        if landing in seen:
            raise DuplicateLanding(landing)
        seen[landing] = True


def check_pair_count(pairs):
    """Raise BadCount if there are too many pairs."""
    if len(pairs) > MAX_PAIRS:
        raise BadCount("pairs", len(pairs))
