"""Names, and likings: lists of distinct things, the best first."""

from riverkeeps.checks import check_number
from riverkeeps.errors import BadName, DuplicateName, UnknownThing

MAX_TOWNS = 8
MAX_THINGS = 10
MAX_ROOM = 99
MAX_NAME = 8

LETTERS = "abcdefghijklmnopqrstuvwxyz"
LETTERS_AND_DIGITS = "abcdefghijklmnopqrstuvwxyz0123456789"
BARRED_WORDS = ("sea", "it")


def is_name(text):
    """Tell whether the string is a name."""
    if not 1 <= len(text) <= MAX_NAME or text in BARRED_WORDS:
        return False
    return text[0] in LETTERS and all([char in LETTERS_AND_DIGITS for char in text])


def check_name(text):
    """Return the string; raise BadName if it is not a name."""
    if not is_name(text):
        raise BadName(text)
    return text


def first_duplicate(items):
    """Return the first item that has an equal item before it, or None."""
    seen = {}
    for item in items:
        if item in seen:
            return item
        seen[item] = True
    return None


def is_liking(liking, things):
    """Tell whether the liking holds every one of the things exactly once and nothing else."""
    return sorted(liking) == sorted(things)


def check_known(known, thing):
    """Raise UnknownThing unless the thing is among the known ones."""
    if thing not in known:
        raise UnknownThing(thing)


def check_all_known(known, things):
    """Raise UnknownThing or DuplicateName for the first wrong one of the things."""
    seen = {}
    for thing in things:
        check_known(known, thing)
        if thing in seen:
            raise DuplicateName(thing)
        seen[thing] = True


def rank(liking, thing):
    """Return the index of the thing in the liking."""
    check_known(liking, thing)
    return liking.index(thing)


def best(liking, things, many):
    """Return the best of the things, as many as asked for, the best first."""
    check_all_known(liking, things)
    check_number(many, 0, MAX_ROOM)
    return restrict(liking, things)[:many]


def excess(liking, things, many):
    """Return the things that are not among the best, the best of them first."""
    check_all_known(liking, things)
    check_number(many, 0, MAX_ROOM)
    return restrict(liking, things)[many:]


def restrict(liking, things):
    """Return the liking without everything that is not among the things."""
    return [item for item in liking if item in things]


def dropped(liking, thing):
    """Return the liking without the thing."""
    check_known(liking, thing)
    return [item for item in liking if item != thing]


def inserted(liking, thing, at):
    """Return the liking with a new thing at this index."""
    if thing in liking:
        raise DuplicateName(thing)
    check_number(at, 0, len(liking))
    return list(liking[:at]) + [thing] + list(liking[at:])


def exchanged(liking, at):
    """Return the liking with the items at this index and the next one exchanged."""
    check_number(at, 0, len(liking) - 2)
    return list(liking[:at]) + [liking[at + 1], liking[at]] + list(liking[at + 2:])
