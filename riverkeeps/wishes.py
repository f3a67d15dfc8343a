"""Wishes: which things can be kept in which towns, what shows it, and the least changes that grant it."""

from riverkeeps.checks import check_number, check_pair_count, check_thing, check_town
from riverkeeps.deeds import can_be_done, is_history, world_after
from riverkeeps.ends import end_stage, end_world, is_end, kept_at_end, landed_at_end
from riverkeeps.errors import BadRoom, DuplicateName
from riverkeeps.listing import list_stages
from riverkeeps.names import MAX_ROOM, rank
from riverkeeps.places import place_under
from riverkeeps.rivers import River, check_room
from riverkeeps.roads import history_between
from riverkeeps.stages import greatest_stage, is_stage
from riverkeeps.worlds import World

MAX_SIZE = 2


def check_wish(river, thing, town):
    """Raise UnknownThing or UnknownTown."""
    check_thing(river, thing)
    check_town(river, town)


def may_keep(river, thing, town):
    """Tell whether in some history the thing is kept in the town at some moment."""
    check_wish(river, thing, town)
    return river.room(town) > 0 and (thing, town) in end_stage(river)


def must_keep(river, thing, town):
    """Tell whether in every history from the start to the end the thing is kept in the town at some moment."""
    check_wish(river, thing, town)
    return thing in kept_at_end(river)[town]


def history_to_keep(river, thing, town):
    """Return a history that lands nothing in the town but, as its last deed, the thing."""
    others = [landing for landing in river.landings() if landing[1] == town]
    return history_between(river, [], greatest_stage(river, without=others), []) + [(thing, town)]


def keep_paper(river, thing, town):
    """Return a paper that shows whether the thing may be kept in the town."""
    check_wish(river, thing, town)
    if town not in river.path(thing):
        return ("road", None)
    if river.room(town) == 0:
        return ("room", None)
    end = end_stage(river)
    if (thing, town) not in end:
        return ("absent", end)
    return ("kept", history_to_keep(river, thing, town))


def is_kept_after(river, thing, town, history):
    """Tell whether this is a history from the start after which the thing is kept in the town."""
    world = World(river)
    return can_be_done(world, history) and world_after(world, history).place(thing) == ("kept", town)


def is_keep_paper(river, thing, town, paper):
    """Judge whether the keep paper is right."""
    check_wish(river, thing, town)
    word, value = paper
    if word == "kept":
        return is_kept_after(river, thing, town, value)
    if word == "road":
        return value is None and town not in river.path(thing)
    if word == "room":
        return value is None and river.room(town) == 0
    if word != "absent" or town not in river.path(thing):
        return False
    return is_end(river, value) and (thing, town) not in value


def history_to_pass(river, thing, town):
    """Return a history to the end that puts off the landing of the thing in the town."""
    end = end_stage(river)
    before = end
    if town in river.path(thing):
        before = greatest_stage(river, without=[(thing, town)])
    return history_between(river, [], before, []) + history_between(river, before, end, [])


def must_paper(river, thing, town):
    """Return a paper that shows whether the thing must be kept in the town."""
    check_wish(river, thing, town)
    if thing in kept_at_end(river)[town]:
        return ("always", end_stage(river))
    return ("passed", history_to_pass(river, thing, town))


def is_passed(river, thing, town, history):
    """Tell whether this is a history to the end during which the thing is never kept in the town."""
    if not is_history(World(river), history, goal=end_world(river)):
        return False
    done = {}
    for landing in history:
        done[landing] = True
        if place_under(river, done, thing) == ("kept", town):
            return False
    return True


def is_must_paper(river, thing, town, paper):
    """Judge whether the must paper is right."""
    check_wish(river, thing, town)
    word, value = paper
    if word == "passed":
        return is_passed(river, thing, town, value)
    return word == "always" and is_end(river, value) and thing in kept_at_end(river)[town]


def check_wishes(river, pairs):
    """Raise an error unless these are pairs (thing, town), and not too many."""
    check_pair_count(pairs)
    for thing, town in pairs:
        check_wish(river, thing, town)


def are_kept(river, pairs, stage):
    """Tell whether in the world of the stage each thing of the pairs is kept in its town."""
    done = {landing: True for landing in stage}
    return all([place_under(river, done, thing) == ("kept", town) for thing, town in pairs])


def kept_together(river, pairs):
    """Return the first stage in whose world each thing of the pairs is kept in its town, or None."""
    check_wishes(river, pairs)
    for stage in list_stages(river):
        if are_kept(river, pairs, stage):
            return stage
    return None


def is_kept_together(river, pairs, stage):
    """Judge whether this is a stage in whose world each thing of the pairs is kept in its town."""
    check_wishes(river, pairs)
    return is_stage(river, stage) and are_kept(river, pairs, stage)


def size_of(change):
    """Return the size of a room change."""
    return sum([abs(step) for _, step in change])


def room_steps(river, town, most):
    """Return the room changes of this town alone that are at most of this size, the empty one among them."""
    room = river.room(town)
    steps = [step for step in range(-most, most + 1) if step != 0 and 0 <= room + step <= MAX_ROOM]
    return [[]] + [[(town, step)] for step in steps]


def room_changes(river, size):
    """Return all room changes of this size, in Python's order of lists."""
    changes = [[]]
    for town in river.towns:
        changes = [change + more for change in changes for more in room_steps(river, town, size - size_of(change))]
    return sorted([change for change in changes if size_of(change) == size])


def is_granted(river, thing, town, change):
    """Tell whether the thing is kept in the town at the end of the river with the changed rooms."""
    steps = {name: step for name, step in change}
    rows = [(name, after, room + steps.get(name, 0), liking) for name, after, room, liking in river.town_rows()]
    return thing in kept_at_end(River(rows, river.thing_rows()))[town]


def least_rooms(river, thing, town, *, most=1):
    """Return the least room change, at most of this size, that grants the thing in the town, or None."""
    check_wish(river, thing, town)
    check_number(most, 0, MAX_SIZE)
    for size in range(most + 1):
        for change in room_changes(river, size):
            if is_granted(river, thing, town, change):
                return change
    return None


def check_change(river, change):
    """Check the pairs (town, change) of a room change, which may be in any order."""
    seen = {}
    for town, step in change:
        check_town(river, town)
        if town in seen:
            raise DuplicateName(town)
        seen[town] = True
        if isinstance(step, bool):
            raise BadRoom(town)
        check_room(town, river.room(town) + step)


def grants(river, thing, town, change):
    """Tell whether the room change grants the thing in the town."""
    check_wish(river, thing, town)
    check_change(river, change)
    return is_granted(river, thing, town, change)


def lift(river, thing, town):
    """Return the exchanges in the liking of the town after which the thing is kept there at the end, or None."""
    check_wish(river, thing, town)
    room = river.room(town)
    landed = landed_at_end(river)[town]
    if room == 0 or thing not in landed:
        return None
    better = landed[:landed.index(thing)]
    if len(better) < room:
        return []
    liking = river.liking(town)
    highest = rank(liking, better[room - 1])
    return list(range(rank(liking, thing) - 1, highest - 1, -1))
