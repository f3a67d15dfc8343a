"""Where the things are and what the towns keep, told by the landings that have been done.

In every function `done` is a dict whose keys are the landings of a stage; nothing is checked but names.
"""

from riverkeeps.flow import has_floated_on
from riverkeeps.names import best, excess


def place_under(river, done, thing):
    """Return the place of the thing, a tuple (kind, town)."""
    for town in river.path(thing):
        if (thing, town) not in done:
            return ("afloat", town)
        if not has_floated_on(river, done, (thing, town)):
            return ("kept", town)
    return ("sea", None)


def free_under(river, done):
    """Return the free landings of the stage, in landing order."""
    places = [(thing, place_under(river, done, thing)) for thing in river.things]
    return [(thing, town) for thing, (kind, town) in places if kind == "afloat"]


def landed_under(river, done, town):
    """Return the things that ever landed in the town, the best first."""
    return [thing for thing in river.liking(town) if (thing, town) in done]


def floated_by(river, done, landing):
    """Return the thing that floats on from the town when this free landing is done, or None."""
    thing, town = landing
    liking = river.liking(town)
    room = river.room(town)
    group = best(liking, landed_under(river, done, town), room) + [thing]
    worst = excess(liking, group, room)
    return worst[0] if worst else None
