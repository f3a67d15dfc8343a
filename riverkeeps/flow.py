"""The flow: which landings are open under others, and the greatest stage within a list of landings.

Where a function takes `done`, it is a dict whose keys are the landings that have been done; nothing is checked.
"""

from riverkeeps.checks import check_landing, check_landings
from riverkeeps.errors import NotStage


def as_done(landings):
    """Return the landings as the keys of a dict."""
    return {landing: True for landing in landings}


def landing_before(river, landing):
    """Return the landing of the same thing in the town directly before, or None."""
    check_landing(river, landing)
    thing, town = landing
    path = river.path(thing)
    at = path.index(town)
    return (thing, path[at - 1]) if at > 0 else None


def better_things(river, landing):
    """Return the things that the town of the landing likes better than its thing, the best first."""
    thing, town = landing
    liking = river.liking(town)
    return liking[:liking.index(thing)]


def better_landed(river, done, landing):
    """Return the number of those better things that have landed in the town."""
    town = landing[1]
    return len([other for other in better_things(river, landing) if (other, town) in done])


def has_floated_on(river, done, landing):
    """Tell whether the thing of a landing that has been done has floated on from its town."""
    return better_landed(river, done, landing) >= river.room(landing[1])


def open_under(river, done, landing):
    """Tell whether the landing is open under those that have been done."""
    before = landing_before(river, landing)
    return before is None or (before in done and has_floated_on(river, done, before))


def is_open(river, landings, landing):
    """Tell whether the landing is open under the list of landings."""
    check_landings(river, landings)
    return open_under(river, as_done(landings), landing)


def in_order(river, landings):
    """Return the landings in landing order."""
    check_landings(river, landings)
    listed = as_done(landings)
    return [landing for landing in river.landings() if landing in listed]


def greatest_within(river, landings):
    """Return the greatest stage within the list of landings."""
    ordered = in_order(river, landings)
    done = {}
    many = -1
    while many < len(done):
        many = len(done)
        for landing in ordered:
            if landing not in done and open_under(river, done, landing):
                done[landing] = True
    return [landing for landing in ordered if landing in done]


def stage_list(river, stage):
    """Return the stage in landing order; raise NotStage, or what a wrong list of landings raises."""
    greatest = greatest_within(river, stage)
    for landing in in_order(river, stage):
        if landing not in greatest:
            raise NotStage(landing)
    return greatest
