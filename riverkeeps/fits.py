"""Fits: the rows of stages that fit a diary, found by going through all stages of its river.

In the helping functions a stage is told by its number in stage order, so the empty stage is 0. The links of a diary
are a list with an item for each entry: the item at index k of it is the list of the numbers of the stages that may
stand at that entry if the stage at the entry before it, or at the start, is number k.
"""

from riverkeeps.checks import check_number
from riverkeeps.diaries import MAX_DIARY_STAGES, check_sighting, is_sighted, is_within
from riverkeeps.errors import BadCount, NoFit
from riverkeeps.flow import as_done
from riverkeeps.kinds import is_list, is_number, is_row
from riverkeeps.listing import list_stages
from riverkeeps.worlds import World

MAX_WRONG = 2
MAX_SEARCHED = 8


def worlds_of(diary):
    """Return the worlds of all stages of the river, in stage order; raise TooMany."""
    stages = list_stages(diary.river, limit=MAX_DIARY_STAGES)
    return [World(diary.river, stage=stage) for stage in stages]


def steps_between(worlds):
    """Return for each world the pairs (number, deeds) of the worlds that histories from it lead to."""
    dones = [as_done(world) for world in worlds]
    steps = []
    for world in worlds:
        steps.append([(number, len(done) - len(world)) for number, done in enumerate(dones)
                      if all([landing in done for landing in world])])
    return steps


def links_between(diary, worlds, steps, left_out):
    """Return the links of the diary without the sightings at the addresses that are left out."""
    links = []
    for at, entry in enumerate(diary.entries):
        asked = [sighting for index, sighting in enumerate(entry[2]) if (at, index) not in left_out]
        shown = [all([is_sighted(world, sighting) for sighting in asked]) for world in worlds]
        links.append([[number for number, deeds in row if shown[number] and is_within(entry, deeds)] for row in steps])
    return links


def links_of(diary, worlds):
    """Return the links of the whole diary."""
    return links_between(diary, worlds, steps_between(worlds), [])


def reached_by(links):
    """Return for each entry the numbers of the stages that fit it and the entries before it, ascending."""
    reached = [[0]]
    for link in links:
        reached.append(sorted(list({number: True for before in reached[-1] for number in link[before]})))
    return reached[1:]


def ways_by(links, many):
    """Return for each entry, and behind the last one, a list that tells for each stage the number of ways to go on.

    It is the number of ways to choose the stages from this entry on if the entry before it has that stage.
    """
    ways = [[1] * many]
    for link in reversed(links):
        ways.append([sum([ways[-1][number] for number in numbers]) for numbers in link])
    ways.reverse()
    return ways


def first_empty(links):
    """Return the index of the first entry that no stage fits behind the entries before it, or None."""
    for at, numbers in enumerate(reached_by(links)):
        if not numbers:
            return at
    return None


def choice_at(numbers, ways, index):
    """Return which of the numbers the row of stages at this index begins with, and its index among those that do."""
    at = 0
    while index >= ways[numbers[at]]:
        index -= ways[numbers[at]]
        at += 1
    return (numbers[at], index)


def stages_at(worlds, links, ways, index):
    """Return the fit at this index."""
    number = 0
    stages = []
    for link, onward in zip(links, ways[1:]):
        number, index = choice_at(link[number], onward, index)
        stages.append(worlds[number].stage)
    return stages


def possible_worlds(worlds, links, at):
    """Return the worlds, in stage order, that stand at this entry in some fit."""
    onward = ways_by(links, len(worlds))[at + 1]
    return [worlds[number] for number in reached_by(links)[at] if onward[number] > 0]


def least_fit(diary):
    """Return the first of all fits, or None."""
    worlds = worlds_of(diary)
    links = links_of(diary, worlds)
    ways = ways_by(links, len(worlds))
    return stages_at(worlds, links, ways, 0) if ways[0][0] > 0 else None


def first_unfit(diary):
    """Return the index of the first entry with which the diary has no fit any more, or None."""
    return first_empty(links_of(diary, worlds_of(diary)))


def count_fits(diary):
    """Return the number of fits."""
    worlds = worlds_of(diary)
    return ways_by(links_of(diary, worlds), len(worlds))[0][0]


def fit_at(diary, number):
    """Return the fit at this index among all fits."""
    worlds = worlds_of(diary)
    links = links_of(diary, worlds)
    ways = ways_by(links, len(worlds))
    check_number(number, 0, ways[0][0] - 1)
    return stages_at(worlds, links, ways, number)


def possible_stages(diary, at):
    """Return the stages that stand at this entry in some fit, in stage order."""
    check_number(at, 0, len(diary) - 1)
    worlds = worlds_of(diary)
    return [world.stage for world in possible_worlds(worlds, links_of(diary, worlds), at)]


def sighted_in_fits(diary, at, sighting):
    """Return for each stage that stands at this entry in some fit whether the sighting holds there; raise NoFit."""
    check_number(at, 0, len(diary) - 1)
    check_sighting(diary.river, sighting)
    worlds = worlds_of(diary)
    links = links_of(diary, worlds)
    unfit = first_empty(links)
    if unfit is not None:
        raise NoFit(unfit)
    return [is_sighted(world, sighting) for world in possible_worlds(worlds, links, at)]


def may_hold(diary, at, sighting):
    """Tell whether the sighting holds at this entry in some fit."""
    return any(sighted_in_fits(diary, at, sighting))


def must_hold(diary, at, sighting):
    """Tell whether the sighting holds at this entry in every fit."""
    return all(sighted_in_fits(diary, at, sighting))


def addresses_of(diary):
    """Return the addresses (entry, index) of all sightings, ascending."""
    return [(at, index) for at, entry in enumerate(diary.entries) for index in range(len(entry[2]))]


def chosen_lists(items, size):
    """Return all lists of so many of the items, which keep their order, in Python's order of lists."""
    if size == 0:
        return [[]]
    return [[item] + more for at, item in enumerate(items) for more in chosen_lists(items[at + 1:], size - 1)]


def least_wrong(diary, *, most=2):
    """Return all lists of fewest sightings without which the diary has a fit, if they are not longer than `most`."""
    check_number(most, 0, MAX_WRONG)
    addresses = addresses_of(diary)
    if len(addresses) > MAX_SEARCHED:
        raise BadCount("sightings", len(addresses))
    worlds = worlds_of(diary)
    steps = steps_between(worlds)
    for size in range(most + 1):
        found = [chosen for chosen in chosen_lists(addresses, size)
                 if first_empty(links_between(diary, worlds, steps, chosen)) is None]
        if found:
            return found
    return []


def are_addresses(diary, addresses):
    """Judge whether the value is a list of addresses of sightings of the diary, without duplicates."""
    if not is_list(addresses) or not all([is_row(address, 2) for address in addresses]):
        return False
    if not all([is_number(at) and is_number(index) for at, index in addresses]):
        return False
    known = addresses_of(diary)
    told = {address: True for address in addresses}
    return all([address in known for address in addresses]) and len(told) == len(addresses)


def is_wrong_set(diary, addresses):
    """Judge whether the diary has a fit without the sightings at the addresses."""
    worlds = worlds_of(diary)
    if not are_addresses(diary, addresses):
        return False
    return first_empty(links_between(diary, worlds, steps_between(worlds), addresses)) is None
