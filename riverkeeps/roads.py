"""Roads: histories from one stage to another one, and what shows that there is none."""

from riverkeeps.checks import check_landings
from riverkeeps.deeds import is_history
from riverkeeps.errors import NoHistory
from riverkeeps.flow import as_done, stage_list
from riverkeeps.places import free_under
from riverkeeps.worlds import World


def first_missing(one, other):
    """Return the first landing of one stage list that is not in the other one, or None."""
    for landing in one:
        if landing not in other:
            return landing
    return None


def check_road(one, other):
    """Raise NoHistory unless every landing of one stage list is in the other one."""
    missing = first_missing(one, other)
    if missing is not None:
        raise NoHistory(missing)


def history_between(river, one, other, wish):
    """Return the history between two stage lists that does the first wished landing where it can."""
    done = as_done(one)
    history = []
    while len(done) < len(other):
        ready = [landing for landing in free_under(river, done) if landing in other]
        wished = [landing for landing in wish if landing in ready]
        landing = (wished + ready)[0]
        done[landing] = True
        history.append(landing)
    return history


def least_history(river, one, other):
    """Return the history that does the first possible landing, in landing order, at each step."""
    return guided_history(river, one, other)


def guided_history(river, one, other, *, wish=()):
    """Return a history that does, at each step, the first possible landing of the wish, or else of all."""
    start = stage_list(river, one)
    goal = stage_list(river, other)
    check_landings(river, wish)
    check_road(start, goal)
    return history_between(river, start, goal, wish)


def deeds_between(river, one, other):
    """Return the number of deeds of every history from one stage to the other one."""
    start = stage_list(river, one)
    goal = stage_list(river, other)
    check_road(start, goal)
    return len(goal) - len(start)


def road(river, one, other):
    """Return a paper that shows a history from one stage to the other one, or that there is none."""
    start = stage_list(river, one)
    goal = stage_list(river, other)
    missing = first_missing(start, goal)
    if missing is not None:
        return ("missing", missing)
    return ("history", history_between(river, start, goal, []))


def is_road(river, one, other, paper):
    """Judge whether the road paper is right."""
    start = World(river, stage=one)
    goal = World(river, stage=other)
    word, value = paper
    if word == "history":
        return is_history(start, value, goal=goal)
    return word == "missing" and value in start and value not in goal
