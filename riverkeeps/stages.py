"""Stages: unions, common parts, what is left out, and why a landing has not been done yet."""

from riverkeeps.checks import check_landings
from riverkeeps.errors import LandingError
from riverkeeps.flow import (
    as_done, better_landed, better_things, greatest_within, in_order, landing_before, open_under, stage_list)
from riverkeeps.places import free_under


def is_stage(river, landings):
    """Judge whether the list of landings is a stage."""
    try:
        stage_list(river, landings)
    except LandingError:
        return False
    return True


def free_landings(river, stage):
    """Return the free landings of the stage, in landing order."""
    return free_under(river, as_done(stage_list(river, stage)))


def union(river, one, other):
    """Return the union of two stages."""
    first_list = stage_list(river, one)
    second_list = stage_list(river, other)
    return [landing for landing in river.landings() if landing in first_list or landing in second_list]


def meet(river, one, other):
    """Return the greatest stage within the common landings of two stages."""
    first_list = stage_list(river, one)
    second_list = stage_list(river, other)
    return greatest_within(river, [landing for landing in first_list if landing in second_list])


def greatest_stage(river, *, within=None, without=()):
    """Return the greatest stage within a list of landings, or within all of them, without some landings."""
    listed = river.landings() if within is None else in_order(river, within)
    check_landings(river, without)
    return greatest_within(river, [landing for landing in listed if landing not in without])


def left_out(river, within):
    """Return the landings of the list that are not in the greatest stage within it."""
    greatest = greatest_within(river, within)
    return [landing for landing in in_order(river, within) if landing not in greatest]


def is_greatest(river, within, stage):
    """Judge whether the stage is the greatest one within the list."""
    check_landings(river, within)
    if not is_stage(river, stage):
        return False
    inside = all([landing in within for landing in stage])
    return inside and not any([landing in within for landing in free_landings(river, stage)])


def arrival(river, done, landing):
    """Return why a landing has not been done, as a tuple (word, lack, better)."""
    if open_under(river, done, landing):
        return ("free", 0, [])
    before = landing_before(river, landing)
    if before not in done:
        return ("before", 0, [])
    town = before[1]
    lack = river.room(town) - better_landed(river, done, before)
    return ("lacks", lack, [thing for thing in better_things(river, before) if (thing, town) not in done])


def arrival_table(river, stage):
    """Return the rows (landing, word, lack, better) of the landings that are not in the stage."""
    done = as_done(stage_list(river, stage))
    rows = []
    for landing in river.landings():
        if landing not in done:
            word, lack, better = arrival(river, done, landing)
            rows.append((landing, word, lack, better))
    return rows


def removable(river, stage):
    """Return the landings without which the stage is still a stage."""
    listed = stage_list(river, stage)
    return [landing for landing in listed if is_stage(river, [other for other in listed if other != landing])]


def covering(river, stage):
    """Return the stages that consist of this stage and one landing more."""
    listed = stage_list(river, stage)
    return [in_order(river, listed + [landing]) for landing in free_landings(river, listed)]
