"""Worlds: a river together with the place of each thing, and the world text."""

from riverkeeps.checks import check_thing, check_town
from riverkeeps.errors import BadPlace, BadText, DuplicateName, OtherRiver
from riverkeeps.flow import as_done, stage_list
from riverkeeps.names import best
from riverkeeps.places import landed_under, place_under

TOWN_KINDS = ("afloat", "kept")


class World:
    """The world of a stage of the river."""

    def __init__(self, river, *, stage=()):
        self.river = river
        self._stage = stage_list(river, stage)
        done = as_done(self._stage)
        self._places = {thing: place_under(river, done, thing) for thing in river.things}

    @property
    def stage(self):
        """The landings that have been done, in landing order."""
        return list(self._stage)

    @property
    def ended(self):
        """Whether no landing is free."""
        return self.free() == []

    def place(self, thing):
        """Return the place of the thing, a tuple (kind, town)."""
        check_thing(self.river, thing)
        return self._places[thing]

    def places(self):
        """Return the place rows (thing, kind, town), ascending."""
        return [(thing, self._places[thing][0], self._places[thing][1]) for thing in self.river.things]

    def kept(self, town):
        """Return the things that are kept in the town, the best first."""
        return best(self.river.liking(town), self.landed(town), self.river.room(town))

    def landed(self, town):
        """Return all things that ever landed in the town, the best first."""
        return landed_under(self.river, as_done(self._stage), town)

    def ahead(self, town):
        """Return the things that are afloat ahead of the town, ascending."""
        check_town(self.river, town)
        return [thing for thing in self.river.things if self._places[thing] == ("afloat", town)]

    def at_sea(self):
        """Return the things in the sea, ascending."""
        return [thing for thing in self.river.things if self._places[thing] == ("sea", None)]

    def free(self):
        """Return the free landings, in landing order."""
        return [(thing, town) for thing, kind, town in self.places() if kind == "afloat"]

    def __len__(self):
        return len(self._stage)

    def __iter__(self):
        return iter(self._stage)

    def __contains__(self, landing):
        # A tuple may contain anything here, also what is equal to everything.
        return all([isinstance(name, str) for name in landing]) and landing in self._stage

    def __or__(self, other):
        if not self.river == other.river:
            raise OtherRiver()
        both = self._stage + [landing for landing in other._stage if landing not in self._stage]
        return World(self.river, stage=both)

    def __eq__(self, other):
        return isinstance(other, World) and self.river == other.river and self._stage == other._stage


def is_place(river, thing, kind, town):
    """Tell whether the thing of the river can be in this place."""
    if kind == "sea":
        return town is None
    return kind in TOWN_KINDS and town in river.path(thing)


def check_places(river, places):
    """Raise an error unless the rows name one possible place for each thing of the river."""
    seen = {}
    for thing, kind, town in places:
        check_thing(river, thing)
        if thing in seen:
            raise DuplicateName(thing)
        seen[thing] = True
        if not is_place(river, thing, kind, town):
            raise BadPlace(thing)
    for thing in river.things:
        if thing not in seen:
            raise BadPlace(thing)


def landings_told(river, place_row):
    """Return the landings that a thing has done by its place."""
    thing, kind, town = place_row
    path = river.path(thing)
    many = len(path)
    if kind == "afloat":
        many = path.index(town)
    if kind == "kept":
        many = path.index(town) + 1
    return [(thing, name) for name in path[:many]]


def stage_of_places(river, places):
    """Return the stage list of the world with these places."""
    check_places(river, places)
    told = [landing for place_row in places for landing in landings_told(river, place_row)]
    world = World(river, stage=told)
    told_places = {thing: (kind, town) for thing, kind, town in places}
    for thing in river.things:
        if world.place(thing) != told_places[thing]:
            raise BadPlace(thing)
    return world.stage


def write_world(world):
    """Return the world text."""
    lines = []
    for thing, kind, town in world.places():
        lines.append(f"{thing} {kind}" if town is None else f"{thing} {kind} {town}")
    return "\n".join(lines)


def place_of_words(river, thing, words):
    """Return the place row that the words of a line tell about this thing; None if they are at fault."""
    if words == [thing, "sea"]:
        return (thing, "sea", None)
    if len(words) != 3 or words[0] != thing or words[1] not in TOWN_KINDS or words[2] not in river.path(thing):
        return None
    return (thing, words[1], words[2])


def read_places(river, text):
    """Return the place rows of a world text; raise BadText."""
    things = river.things
    # Splitting the empty text would give a line, and a river without things has none.
    lines = text.split("\n") if things or text != "" else []
    places = []
    for at, line in enumerate(lines):
        place_row = None
        if at < len(things):
            place_row = place_of_words(river, things[at], line.split(" "))
        if place_row is None:
            raise BadText(at + 1)
        places.append(place_row)
    if len(places) < len(things):
        raise BadText(len(places) + 1)
    return places


def read_world(river, text):
    """Return the world of a world text; raise BadText or an error of stage_of_places."""
    return World(river, stage=stage_of_places(river, read_places(river, text)))
