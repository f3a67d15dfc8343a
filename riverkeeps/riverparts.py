"""Parts of rivers: what lies upstream and downstream, other names, fewer towns, fewer things."""

from riverkeeps.checks import check_thing, check_town
from riverkeeps.errors import DuplicateName
from riverkeeps.names import check_all_known, check_name, first_duplicate, restrict
from riverkeeps.rivers import River, towns_from


def check_pair(pairs, at):
    """Check one pair (old, new) of a renaming, but for the old name being known."""
    old, new = pairs[at]
    if old in [pair[0] for pair in pairs[:at]]:
        raise DuplicateName(old)
    check_name(new)


def new_names(names, pairs):
    """Return a dict that tells the new name of each one; raise DuplicateName if two would be equal."""
    renames = {name: name for name in names}
    for old, new in pairs:
        renames[old] = new
    double = first_duplicate(sorted(list(renames.values())))
    if double is not None:
        raise DuplicateName(double)
    return renames


def renamed(river, *, towns=(), things=()):
    """Return the river with new names; the pairs are (old, new)."""
    for at, (old, _) in enumerate(towns):
        check_town(river, old)
        check_pair(towns, at)
    town_names = new_names(river.towns, towns)
    for at, (old, _) in enumerate(things):
        check_thing(river, old)
        check_pair(things, at)
    thing_names = new_names(river.things, things)
    town_rows = []
    for name, after, room, liking in river.town_rows():
        behind = None if after is None else town_names[after]
        town_rows.append((town_names[name], behind, room, [thing_names[thing] for thing in liking]))
    return River(town_rows, [(thing_names[name], town_names[spring]) for name, spring in river.thing_rows()])


def downstream(river, town):
    """Return the towns from this one down to the last one before the sea."""
    check_town(river, town)
    return towns_from({name: river.after(name) for name in river.towns}, town)


def upstream(river, town):
    """Return all towns from which this one is reached, itself included, ascending."""
    check_town(river, town)
    return [name for name in river.towns if town in downstream(river, name)]


def confluence(river, one, other):
    """Return the first town that is downstream of both towns, or None."""
    check_town(river, one)
    check_town(river, other)
    reached = downstream(river, other)
    for town in downstream(river, one):
        if town in reached:
            return town
    return None


def upstream_order(river):
    """Return all towns, each one behind its feeders, the least name first where there is a choice."""
    order = []
    left = river.towns
    while left:
        ready = [town for town in left if all([feeder in order for feeder in river.feeders(town)])]
        order.append(ready[0])
        left = [town for town in left if town != ready[0]]
    return order


def basin(river, town):
    """Return the river of the towns upstream of this one and of the things that have their springs there."""
    towns = upstream(river, town)
    things = [thing for thing in river.things if river.spring(thing) in towns]
    town_rows = []
    for name in towns:
        after = None if name == town else river.after(name)
        town_rows.append((name, after, river.room(name), restrict(river.liking(name), things)))
    return River(town_rows, [(thing, river.spring(thing)) for thing in things])


def only_things(river, things):
    """Return the river with only these things."""
    check_all_known(river.things, things)
    town_rows = [(name, after, room, restrict(liking, things)) for name, after, room, liking in river.town_rows()]
    return River(town_rows, [row for row in river.thing_rows() if row[0] in things])
