"""Diaries: what was sighted in a river, moment by moment, and the stages that fit it."""

from riverkeeps.checks import check_number, check_thing, check_town
from riverkeeps.errors import BadCount, BadKind, NotSimple, UnknownTown
from riverkeeps.flow import greatest_within
from riverkeeps.kinds import are_landings, is_list
from riverkeeps.stages import is_stage
from riverkeeps.worlds import World

MAX_DIARY_STAGES = 60
MAX_ENTRIES = 8
MAX_SIGHTINGS = 10
MAX_DEEDS = 99
KINDS = ("afloat", "kept", "sea", "landed", "unlanded")
LANDED_KINDS = ("landed", "unlanded")


def check_sighting(river, sighting):
    """Raise an error unless the sighting names a thing, a kind, and a town, or None for the sea."""
    thing, kind, town = sighting
    check_thing(river, thing)
    if kind not in KINDS:
        raise BadKind(kind)
    if kind != "sea":
        check_town(river, town)
    elif town is not None:
        raise UnknownTown(town)


def check_entry(river, entry):
    """Raise an error unless the bounds and the sightings of the entry are right."""
    least, most, sightings = entry
    check_number(least, 0, MAX_DEEDS)
    if most is not None:
        check_number(most, 0, MAX_DEEDS)
    if len(sightings) > MAX_SIGHTINGS:
        raise BadCount("sightings", len(sightings))
    for sighting in sightings:
        check_sighting(river, sighting)


def check_entries(river, entries):
    """Raise an error unless these are the entries of a diary."""
    if len(entries) > MAX_ENTRIES:
        raise BadCount("entries", len(entries))
    for entry in entries:
        check_entry(river, entry)


class Diary:
    """A river and what was sighted in it, made of entries (least, most, sightings)."""

    def __init__(self, river, entries):
        check_entries(river, entries)
        self.river = river
        self._entries = [(least, most, list(sightings)) for least, most, sightings in entries]

    @property
    def entries(self):
        """The entries, in their order."""
        return [(least, most, list(sightings)) for least, most, sightings in self._entries]

    def __len__(self):
        return len(self._entries)


def is_sighted(world, sighting):
    """Tell whether a sighting that is known to be right holds in the world."""
    thing, kind, town = sighting
    if kind in LANDED_KINDS:
        return ((thing, town) in world) == (kind == "landed")
    return world.place(thing) == (kind, town)


def holds(world, sighting):
    """Tell whether the sighting holds in the world."""
    check_sighting(world.river, sighting)
    return is_sighted(world, sighting)


def is_within(entry, deeds):
    """Tell whether so many deeds since the entry before this one are within its bounds."""
    least, most, _ = entry
    return least <= deeds and (most is None or deeds <= most)


def can_stand(river, entry, before, stage):
    """Tell whether the stage fits the entry, if the entry before it has the stage `before`."""
    if not all([landing in stage for landing in before]) or not is_within(entry, len(stage) - len(before)):
        return False
    world = World(river, stage=stage)
    return all([is_sighted(world, sighting) for sighting in entry[2]])


def is_fit(diary, stages):
    """Judge whether the list of stages is a fit of the diary."""
    if not is_list(stages) or len(stages) != len(diary):
        return False
    before = []
    for entry, stage in zip(diary.entries, stages):
        if not are_landings(stage) or not is_stage(diary.river, stage):
            return False
        if not can_stand(diary.river, entry, before, stage):
            return False
        before = stage
    return True


def check_simple(diary):
    """Raise NotSimple with the first entry that has bounds, or a sighting that is not of a landing."""
    for at, (least, most, sightings) in enumerate(diary.entries):
        if least != 0 or most is not None or not all([kind in LANDED_KINDS for _, kind, _ in sightings]):
            raise NotSimple(at)


def sighted_landings(entries, wanted):
    """Return the landings of all sightings of the wanted kind in the entries."""
    return [(thing, town) for _, _, sightings in entries for thing, kind, town in sightings if kind == wanted]


def simple_fit(diary):
    """Return the fit of a simple diary whose stages are the greatest ones, or None."""
    check_simple(diary)
    entries = diary.entries
    stages = []
    for at in range(len(entries)):
        barred = sighted_landings(entries[at:], "unlanded")
        stage = greatest_within(diary.river, [landing for landing in diary.river.landings() if landing not in barred])
        if not all([landing in stage for landing in sighted_landings([entries[at]], "landed")]):
            return None
        stages.append(stage)
    return stages
