"""Runs of orders: what their statements do in a world, and why a run is refused."""

from riverkeeps.errors import OrderRefused
from riverkeeps.flow import as_done
from riverkeeps.places import free_under, landed_under, place_under

MAX_STARTED = 400


class Run:
    """One run: what has been done, which landings of it the run did, and how many statements were started."""

    def __init__(self, world):
        self.river = world.river
        self.done = as_done(world)
        self.history = []
        self.started = 0


def free_now(run):
    """Return the landings that are free at this moment."""
    return free_under(run.river, run.done)


def do_landing(run, landing):
    """Do a free landing."""
    run.done[landing] = True
    run.history.append(landing)


def meant(word, it):
    """Return the thing that a word means; `it` is the thing of the innermost `each`, or None."""
    return it if word == "it" else word


def check_things_known(run, things, spot):
    """Refuse the run unless the river has all the things."""
    if not all([thing in run.river.things for thing in things]):
        raise OrderRefused(spot, "unknown")


def check_towns_known(run, towns, spot):
    """Refuse the run unless the river has all the towns."""
    if not all([town in run.river.towns for town in towns]):
        raise OrderRefused(spot, "unknown")


def things_ahead(run, town, spot):
    """Return the things that are afloat ahead of the town, ascending; refuse the run if there is no such town."""
    check_towns_known(run, [town], spot)
    return [thing for thing, ahead in free_now(run) if ahead == town]


def is_so(run, condition, spot, it):
    """Tell whether the condition holds at this moment; refuse the run if a name in it is unknown."""
    wanted = True
    while condition[0] == "not":
        wanted = not wanted
        condition = condition[1]
    word = condition[0]
    if word == "any":
        return (things_ahead(run, condition[1], spot) != []) == wanted
    if word == "full":
        check_towns_known(run, condition[1:], spot)
        landed = landed_under(run.river, run.done, condition[1])
        return (len(landed) >= run.river.room(condition[1])) == wanted
    thing = meant(condition[1], it)
    check_things_known(run, [thing], spot)
    check_towns_known(run, condition[2:], spot)
    town = None if word == "sea" else condition[2]
    return (place_under(run.river, run.done, thing) == (word, town)) == wanted


def run_land(run, thing, spot):
    """Land a thing; refuse the run if it cannot land."""
    check_things_known(run, [thing], spot)
    kind, town = place_under(run.river, run.done, thing)
    if kind != "afloat":
        raise OrderRefused(spot, kind)
    do_landing(run, (thing, town))


def run_all(run, town, spot):
    """Land all things that are afloat ahead of the town."""
    for thing in things_ahead(run, town, spot):
        do_landing(run, (thing, town))


def run_settle(run):
    """Do the first free landing as long as there is one."""
    free = free_now(run)
    while free:
        do_landing(run, free[0])
        free = free_now(run)


def run_if(run, statement, spot, it):
    """Run one of the two blocks of an `if`."""
    _, condition, body, other = statement
    if is_so(run, condition, spot, it):
        run_block(run, body, spot + (0,), it)
    else:
        run_block(run, other, spot + (1,), it)


def run_loop(run, statement, spot, it):
    """Run the rounds of a `while` or an `until`; refuse the run behind a round without a deed."""
    word, condition, body = statement
    while is_so(run, condition, spot, it) == (word == "while"):
        many = len(run.history)
        run_block(run, body, spot + (0,), it)
        if len(run.history) == many:
            raise OrderRefused(spot, "idle")


def run_each(run, statement, spot):
    """Run the block of an `each` for each thing that is afloat ahead of its town now."""
    _, town, body = statement
    for thing in things_ahead(run, town, spot):
        run_block(run, body, spot + (0,), thing)


def run_statement(run, statement, spot, it):
    """Start a statement and run it."""
    if run.started == MAX_STARTED:
        raise OrderRefused(spot, "long")
    run.started += 1
    word = statement[0]
    if word == "land":
        run_land(run, meant(statement[1], it), spot)
    elif word == "all":
        run_all(run, statement[1], spot)
    elif word == "settle":
        run_settle(run)
    elif word == "if":
        run_if(run, statement, spot, it)
    elif word == "each":
        run_each(run, statement, spot)
    else:
        run_loop(run, statement, spot, it)


def run_block(run, statements, spot, it):
    """Run the statements one after another; `spot` is that of the block."""
    for at, statement in enumerate(statements):
        run_statement(run, statement, spot + (at,), it)
