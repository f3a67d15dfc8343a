"""Histories from one stage to another one, in their order: how many, which one, all of them.

In the helping functions, a key is that of listing.py, and a step of a key is a pair: the number of a landing and the
key of the stage with this landing more.
"""

from riverkeeps.checks import check_number
from riverkeeps.deeds import replay
from riverkeeps.errors import TooMany, WrongEnd
from riverkeeps.flow import stage_list
from riverkeeps.listing import MAX_STAGES, keys_between
from riverkeeps.roads import check_road
from riverkeeps.worlds import World

MAX_HISTORIES = 200


def keys_on_roads(river, one, other):
    """Return the keys of the stages between two stages; raise NoHistory or TooMany."""
    start = stage_list(river, one)
    goal = stage_list(river, other)
    check_road(start, goal)
    return keys_between(river, start, goal, MAX_STAGES)


def steps_on_roads(keys):
    """Return a dict that tells for each key its steps to other ones of the keys, in landing order."""
    steps = {key: [] for key in keys}
    for key in keys:
        for number in keys[-1]:
            more = tuple(sorted(list(key) + [number]))
            if more in steps:
                steps[key].append((number, more))
    return steps


def ways_on_roads(keys, steps):
    """Return a dict that tells for each key how many histories lead from there to the last key."""
    ways = {keys[-1]: 1}
    for key in reversed(keys[:-1]):
        ways[key] = sum([ways[more] for _, more in steps[key]])
    return ways


def count_histories(river, one, other):
    """Return the number of histories from one stage to the other one."""
    keys = keys_on_roads(river, one, other)
    return ways_on_roads(keys, steps_on_roads(keys))[keys[0]]


def check_led(river, one, other, history):
    """Raise DeedRefused or WrongEnd unless the history leads from one stage to the other one."""
    reached = replay(World(river, stage=one), history)
    for landing in river.landings():
        if (landing in reached) != (landing in other):
            raise WrongEnd(landing)


def history_number(river, one, other, history):
    """Return the index of the history among all histories from one stage to the other one."""
    keys = keys_on_roads(river, one, other)
    check_led(river, one, other, history)
    steps = steps_on_roads(keys)
    ways = ways_on_roads(keys, steps)
    key = keys[0]
    index = 0
    for landing in history:
        done = river.landing_number(landing)
        index += sum([ways[more] for number, more in steps[key] if number < done])
        key = tuple(sorted(list(key) + [done]))
    return index


def step_at(steps, ways, index):
    """Return the step that the history at this index begins with, and its index among those that do."""
    at = 0
    while index >= ways[steps[at][1]]:
        index -= ways[steps[at][1]]
        at += 1
    return (steps[at], index)


def landings_at(river, keys, steps, ways, index):
    """Return the history at this index."""
    landings = river.landings()
    key = keys[0]
    history = []
    while key != keys[-1]:
        (number, key), index = step_at(steps[key], ways, index)
        history.append(landings[number])
    return history


def history_at(river, one, other, number):
    """Return the history at this index among all histories from one stage to the other one."""
    keys = keys_on_roads(river, one, other)
    steps = steps_on_roads(keys)
    ways = ways_on_roads(keys, steps)
    check_number(number, 0, ways[keys[0]] - 1)
    return landings_at(river, keys, steps, ways, number)


def each_history(river, one, other):
    """Yield the histories from one stage to the other one, in their order."""
    keys = keys_on_roads(river, one, other)
    steps = steps_on_roads(keys)
    ways = ways_on_roads(keys, steps)
    if ways[keys[0]] > MAX_HISTORIES:
        raise TooMany(MAX_HISTORIES)
    for index in range(ways[keys[0]]):
        yield landings_at(river, keys, steps, ways, index)
