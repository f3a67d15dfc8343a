"""Turns: changes of a river, and what leads back."""

from riverkeeps.checks import check_number, check_thing, check_town
from riverkeeps.errors import BadCount, BadKind, DuplicateName, TownNeeded
from riverkeeps.names import MAX_THINGS, MAX_TOWNS, check_name, dropped, exchanged, inserted, rank
from riverkeeps.rivers import River, check_liking, check_room

CHAIN_WORDS = ("add", "drop", "more", "less", "swap")


def check_new_name(names, name):
    """Raise BadName or DuplicateName unless the name may be added to the names."""
    check_name(name)
    if name in names:
        raise DuplicateName(name)


def check_indexes(river, places):
    """Check the pairs (town, index) of a thing that is added."""
    seen = {}
    for town, index in places:
        check_town(river, town)
        if town in seen:
            raise DuplicateName(town)
        seen[town] = True
        check_number(index, 0, len(river.things))


def with_added(river, turn):
    """Return the river with a new thing."""
    _, thing, spring, places = turn
    if len(river.things) >= MAX_THINGS:
        raise BadCount("things", len(river.things) + 1)
    check_new_name(river.things, thing)
    check_town(river, spring)
    check_indexes(river, places)
    indexes = {town: len(river.things) for town in river.towns}
    for town, index in places:
        indexes[town] = index
    rows = []
    for town, after, room, liking in river.town_rows():
        rows.append((town, after, room, inserted(liking, thing, indexes[town])))
    return River(rows, river.thing_rows() + [(thing, spring)])


def with_dropped(river, turn):
    """Return the river without a thing."""
    _, thing = turn
    check_thing(river, thing)
    rows = [(town, after, room, dropped(liking, thing)) for town, after, room, liking in river.town_rows()]
    return River(rows, [row for row in river.thing_rows() if row[0] != thing])


def with_town_row(river, changed):
    """Return the river with this town row in the place of the one of the same name."""
    rows = [changed if row[0] == changed[0] else row for row in river.town_rows()]
    return River(rows, river.thing_rows())


def with_room(river, town, step):
    """Return the river in which the room of the town is changed by the step."""
    check_town(river, town)
    room = river.room(town) + step
    check_room(town, room)
    return with_town_row(river, (town, river.after(town), room, river.liking(town)))


def with_more(river, turn):
    """Return the river with more room in a town."""
    return with_room(river, turn[1], 1)


def with_less(river, turn):
    """Return the river with less room in a town."""
    return with_room(river, turn[1], -1)


def with_swap(river, turn):
    """Return the river with two neighbours in the liking of a town exchanged."""
    _, town, at = turn
    check_town(river, town)
    return with_town_row(river, (town, river.after(town), river.room(town), exchanged(river.liking(town), at)))


def with_liking(river, turn):
    """Return the river with another liking of a town."""
    _, town, liking = turn
    check_town(river, town)
    check_liking(town, liking, river.things)
    return with_town_row(river, (town, river.after(town), river.room(town), liking))


def with_town(river, turn):
    """Return the river with a new town."""
    _, name, after, room, liking = turn
    if len(river.towns) >= MAX_TOWNS:
        raise BadCount("towns", len(river.towns) + 1)
    check_new_name(river.towns, name)
    if after is not None:
        check_town(river, after)
    check_room(name, room)
    check_liking(name, liking, river.things)
    return River(river.town_rows() + [(name, after, room, liking)], river.thing_rows())


def without_town(river, turn):
    """Return the river without a town; what leads to it leads to its next town."""
    _, town = turn
    check_town(river, town)
    if len(river.towns) == 1:
        raise BadCount("towns", 0)
    behind = river.after(town)
    if behind is None and river.springs(town):
        raise TownNeeded(town)
    rows = []
    for name, after, room, liking in river.town_rows():
        if name != town:
            rows.append((name, behind if after == town else after, room, liking))
    return River(rows, [(thing, behind if spring == town else spring) for thing, spring in river.thing_rows()])


ACTIONS = {
    "add": with_added,
    "drop": with_dropped,
    "more": with_more,
    "less": with_less,
    "swap": with_swap,
    "liking": with_liking,
    "town": with_town,
    "untown": without_town,
}


def turned(river, turn):
    """Return the river after the turn."""
    if turn[0] not in ACTIONS:
        raise BadKind(turn[0])
    action = ACTIONS[turn[0]]
    return action(river, turn)


def check_chain_word(turn):
    """Raise BadKind unless the turn is a chain turn, by its word alone."""
    if turn[0] not in CHAIN_WORDS:
        raise BadKind(turn[0])


def inverse(river, turn):
    """Return the chain turn that leads back after this one."""
    check_chain_word(turn)
    turned(river, turn)
    word, name = turn[:2]
    if word == "add":
        return ("drop", name)
    if word == "drop":
        return ("add", name, river.spring(name), [(town, rank(river.liking(town), name)) for town in river.towns])
    if word == "swap":
        return ("swap", name, turn[2])
    return ("less" if word == "more" else "more", name)
