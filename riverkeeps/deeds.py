"""Deeds: landings done one after another, refused deeds, and neighbours in a history."""

from riverkeeps.checks import check_number, check_town
from riverkeeps.errors import DeedRefused, ThingAtSea, ThingKept, WrongEnd
from riverkeeps.flow import as_done
from riverkeeps.places import floated_by, place_under
from riverkeeps.worlds import World


def cause_under(river, done, thing, town):
    """Return the cause for which the landing is refused, or None; a town that is None may be any."""
    if thing not in river.things:
        return "unknown"
    kind, ahead = place_under(river, done, thing)
    if kind != "afloat":
        return kind
    return None if town is None or town == ahead else "elsewhere"


def deeds_done(world, deeds):
    """Return the landings that the deeds (thing, town) do one after another; a town that is None may be any."""
    river = world.river
    done = as_done(world)
    history = []
    for at, (thing, town) in enumerate(deeds):
        cause = cause_under(river, done, thing, town)
        if cause is not None:
            raise DeedRefused(at, cause)
        landing = (thing, place_under(river, done, thing)[1])
        done[landing] = True
        history.append(landing)
    return history


def world_after(world, history):
    """Return the world after a history that is known to be possible."""
    return World(world.river, stage=list(world) + list(history))


def town_ahead(world, thing):
    """Return the town in which the thing would land now; raise an error if it cannot."""
    kind, town = world.place(thing)
    if kind == "kept":
        raise ThingKept(thing, town)
    if kind == "sea":
        raise ThingAtSea(thing)
    return town


def refusal(world, thing):
    """Return the cause for which a deed with this thing is refused, or None."""
    return cause_under(world.river, as_done(world), thing, None)


def land(world, thing):
    """Return the world after the thing has landed."""
    return world_after(world, [(thing, town_ahead(world, thing))])


def landing_report(world, thing):
    """Return the thing, the town in which it would land now, and what would float on from there."""
    town = town_ahead(world, thing)
    return (thing, town, floated_by(world.river, as_done(world), (thing, town)))


def history_of(world, things):
    """Return the landings of the things one after another."""
    return deeds_done(world, [(thing, None) for thing in things])


def play(world, things):
    """Return the world after the things have landed one after another."""
    return world_after(world, history_of(world, things))


def replay(world, history):
    """Return the world after the landings have been done one after another."""
    return world_after(world, deeds_done(world, history))


def can_be_done(world, history):
    """Tell whether the landings can be done one after another."""
    try:
        deeds_done(world, history)
    except DeedRefused:
        return False
    return True


def is_history(world, history, *, goal=None):
    """Judge whether the landings can be done one after another and lead to the goal, if there is one."""
    if not can_be_done(world, history):
        return False
    return goal is None or world_after(world, history) == goal


def middle(world, history, at):
    """Return the world after the first deeds of the history, as many as asked for."""
    deeds_done(world, history)
    check_number(at, 0, len(history))
    return world_after(world, history[:at])


def can_exchange(world, history, at):
    """Tell whether the deed at this index and the next one can be exchanged."""
    deeds_done(world, history)
    check_number(at, 0, len(history) - 2)
    return history[at + 1] in world_after(world, history[:at]).free()


def check_same_landings(world, one, other):
    """Raise an error unless both are histories from the world with the same landings."""
    deeds_done(world, one)
    deeds_done(world, other)
    for landing in world.river.landings():
        if (landing in one) != (landing in other):
            raise WrongEnd(landing)


def exchange_path(world, one, other):
    """Return the indexes of the exchanges of neighbours that turn one history into the other."""
    check_same_landings(world, one, other)
    present = list(one)
    path = []
    for front, landing in enumerate(other):
        back = present.index(landing)
        present.insert(front, present.pop(back))
        path.extend(list(range(back - 1, front - 1, -1)))
    return path


def is_exchange_path(world, one, other, path):
    """Judge whether the exchanges turn one history into the other, with a history after each of them."""
    check_same_landings(world, one, other)
    present = list(one)
    for at in path:
        if isinstance(at, bool) or not 0 <= at <= len(present) - 2:
            return False
        present = present[:at] + [present[at + 1], present[at]] + present[at + 2:]
        if not can_be_done(world, present):
            return False
    return present == list(other)


def town_record(world, history, town):
    """Return what the town saw: a pair (thing, floated) for each landing of the history there."""
    landings = deeds_done(world, history)
    check_town(world.river, town)
    done = as_done(world)
    record = []
    for landing in landings:
        if landing[1] == town:
            record.append((landing[0], floated_by(world.river, done, landing)))
        done[landing] = True
    return record
