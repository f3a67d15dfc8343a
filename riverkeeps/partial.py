"""Likings that are known in part, and what holds at the end whatever the rest of them is."""

from riverkeeps.checks import check_number, check_thing, check_town
from riverkeeps.ends import end_world
from riverkeeps.errors import BadLiking, DuplicateName, TooMany
from riverkeeps.rivers import River, check_liking

MAX_COMPLETIONS = 60
MAX_LIMIT = 120


def check_groups(river, known):
    """Raise an error unless the pairs (town, groups) tell likings of towns of the river."""
    seen = {}
    for town, groups in known:
        check_town(river, town)
        if town in seen:
            raise DuplicateName(town)
        seen[town] = True
        if any([len(group) == 0 for group in groups]):
            raise BadLiking(town)
        check_liking(town, [thing for group in groups for thing in group], river.things)


def count_completions(known):
    """Return the number of completions."""
    many = 1
    for _, groups in known:
        for group in groups:
            for size in range(2, len(group) + 1):
                many *= size
    return many


def rows_of(things):
    """Return all orders of the things, which are ascending, in Python's order of lists."""
    if not things:
        return [[]]
    return [[thing] + row for thing in things for row in rows_of([other for other in things if other != thing])]


def likings_of(groups):
    """Return all likings that the groups allow, in Python's order of lists."""
    likings = [[]]
    for group in groups:
        likings = [liking + row for liking in likings for row in rows_of(sorted(group))]
    return likings


def completed(river, known, limit):
    """Return the completions in their order; raise TooMany."""
    if count_completions(known) > limit:
        raise TooMany(limit)
    allowed = {town: likings_of(groups) for town, groups in known}
    tables = [[]]
    for town, after, room, liking in river.town_rows():
        likings = allowed.get(town, [liking])
        tables = [rows + [(town, after, room, choice)] for rows in tables for choice in likings]
    return [River(rows, river.thing_rows()) for rows in tables]


def completions(river, known, *, limit=MAX_COMPLETIONS):
    """Return the rivers in which each named town has one of the likings that its groups allow."""
    check_groups(river, known)
    check_number(limit, 1, MAX_LIMIT)
    return completed(river, known, limit)


def possible_ends(river, known):
    """Return the worlds of the ends of all completions."""
    return [end_world(completion) for completion in completed(river, known, MAX_COMPLETIONS)]


def may_end(river, known, thing):
    """Return the places that the thing has at the end of some completion, down its path."""
    check_groups(river, known)
    check_thing(river, thing)
    ends = possible_ends(river, known)
    places = [("kept", town) for town in river.path(thing)] + [("sea", None)]
    return [place for place in places if any([world.place(thing) == place for world in ends])]


def must_end(river, known):
    """Return the place rows of the things that have the same place at the end of every completion."""
    check_groups(river, known)
    ends = possible_ends(river, known)
    return [row for row in ends[0].places() if all([row in world.places() for world in ends])]


def sure_landings(river, known):
    """Return the landings that are in the end of every completion."""
    check_groups(river, known)
    ends = possible_ends(river, known)
    return [landing for landing in river.landings() if all([landing in world for world in ends])]


def possible_landings(river, known):
    """Return the landings that are in the end of some completion."""
    check_groups(river, known)
    ends = possible_ends(river, known)
    return [landing for landing in river.landings() if any([landing in world for world in ends])]
