"""Lists of stages, in stage order.

In the helping functions, a key is a stage written as the tuple of the numbers of its landings, ascending. So keys of
the same length are in stage order when they are in Python's order.
"""

from riverkeeps.checks import check_number
from riverkeeps.ends import end_stage
from riverkeeps.errors import TooMany
from riverkeeps.flow import stage_list
from riverkeeps.places import free_under
from riverkeeps.roads import check_road

MAX_STAGES = 400


def key_of(river, stage):
    """Return the key of a stage list."""
    return tuple([river.landing_number(landing) for landing in stage])


def stages_of(river, keys):
    """Return the stage lists of the keys."""
    landings = river.landings()
    return [[landings[number] for number in key] for key in keys]


def layer_above(river, layer, high):
    """Return the keys, in order, of the stages within a dict of landings that cover a stage of the layer."""
    above = {}
    for stage in stages_of(river, layer):
        for landing in free_under(river, {landing: True for landing in stage}):
            if landing in high:
                above[tuple(sorted(key_of(river, stage + [landing])))] = True
    return sorted(list(above))


def keys_between(river, low, high, limit):
    """Return the keys of the stages between two stage lists, in stage order; raise TooMany."""
    allowed = {landing: True for landing in high}
    layer = [key_of(river, low)]
    keys = []
    while layer:
        keys.extend(layer)
        if len(keys) > limit:
            raise TooMany(limit)
        layer = layer_above(river, layer, allowed)
    return keys


def all_keys(river):
    """Return the keys of all stages of the river, in stage order; raise TooMany."""
    return keys_between(river, [], end_stage(river), MAX_STAGES)


def list_stages(river, *, low=(), high=None, limit=MAX_STAGES):
    """Return the stages that contain the stage `low` and are contained in the stage `high`."""
    least = stage_list(river, low)
    greatest = end_stage(river) if high is None else stage_list(river, high)
    check_number(limit, 1, MAX_STAGES)
    check_road(least, greatest)
    return stages_of(river, keys_between(river, least, greatest, limit))


def count_stages(river, *, low=(), high=None):
    """Return the number of the stages that contain the stage `low` and are contained in the stage `high`."""
    return len(list_stages(river, low=low, high=high))


def layers(river):
    """Return a list that tells for each number of landings how many stages have it."""
    sizes = [len(key) for key in all_keys(river)]
    return [sizes.count(many) for many in range(sizes[-1] + 1)]


def stage_number(river, stage):
    """Return the index of the stage among all stages of the river."""
    key = key_of(river, stage_list(river, stage))
    return all_keys(river).index(key)


def stage_at(river, number):
    """Return the stage at this index among all stages of the river."""
    keys = all_keys(river)
    check_number(number, 0, len(keys) - 1)
    return stages_of(river, [keys[number]])[0]


def root_numbers(keys):
    """Return the pairs of a key that is a root stage and the number of its one removable landing.

    With each stage, the keys have every stage that it covers.
    """
    known = {key: True for key in keys}
    roots = []
    for key in keys:
        covered = [number for at, number in enumerate(key) if key[:at] + key[at + 1:] in known]
        if len(covered) == 1:
            roots.append((key, covered[0]))
    return roots


def root_stages(river, landing):
    """Return the root stages of the landing."""
    wanted = river.landing_number(landing)
    return stages_of(river, [key for key, number in root_numbers(all_keys(river)) if number == wanted])


def roots_within(river, stage):
    """Return the root stages, of any landing, that are contained in the stage."""
    keys = keys_between(river, [], stage_list(river, stage), MAX_STAGES)
    return stages_of(river, [key for key, _ in root_numbers(keys)])
