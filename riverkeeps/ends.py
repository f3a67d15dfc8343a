"""The end of a river: what has landed, is kept and has floated on when nothing can land any more."""

from riverkeeps.checks import check_town
from riverkeeps.flow import greatest_within, in_order
from riverkeeps.names import best, excess, restrict
from riverkeeps.riverparts import upstream_order
from riverkeeps.stages import is_stage
from riverkeeps.worlds import World


def end_stage(river):
    """Return the end, a stage list."""
    return greatest_within(river, river.landings())


def end_world(river):
    """Return the world of the end."""
    return World(river, stage=end_stage(river))


def end_places(river):
    """Return the place rows (thing, kind, town) of the end, ascending."""
    return end_world(river).places()


def is_end(river, stage):
    """Tell whether the list of landings is the end, without duplicates."""
    return is_stage(river, stage) and in_order(river, stage) == end_stage(river)


def reckon(river):
    """Return the rows (town, landed, kept, floated) of the end, in upstream order."""
    rows = []
    leavers = {}
    for town in upstream_order(river):
        comers = river.springs(town)
        for feeder in river.feeders(town):
            comers = comers + leavers[feeder]
        liking = river.liking(town)
        room = river.room(town)
        leavers[town] = excess(liking, comers, room)
        rows.append((town, restrict(liking, comers), best(liking, comers, room), leavers[town]))
    return rows


def landed_at_end(river):
    """Return a dict that tells for each town what has landed there, the best first."""
    return {town: landed for town, landed, _, _ in reckon(river)}


def kept_at_end(river):
    """Return a dict that tells for each town what is kept there, the best first."""
    return {town: kept for town, _, kept, _ in reckon(river)}


def floated_at_end(river):
    """Return a dict that tells for each town what has floated on from there, the best first."""
    return {town: floated for town, _, _, floated in reckon(river)}


def is_end_places(river, places):
    """Judge whether the place rows, in any order, are those of the end."""
    told = {thing: (kind, town) for thing, kind, town in places}
    # A thing that is told twice makes the rows more than the things that they tell.
    return len(places) == len(told) and told == {thing: (kind, town) for thing, kind, town in end_places(river)}


def leaving(river, town):
    """Return the things that float on from the town by the end, the best first."""
    check_town(river, town)
    return floated_at_end(river)[town]


def room_left(river, town):
    """Return how many things more the town could keep at the end."""
    check_town(river, town)
    return river.room(town) - len(kept_at_end(river)[town])


def deeds_left(world):
    """Return the number of deeds of every history from the world to the end."""
    return len(end_stage(world.river)) - len(world)
