"""Rivers: towns, things, and where each thing can land."""

from riverkeeps.checks import check_thing, check_town
from riverkeeps.errors import BadCount, BadLiking, BadRoom, DuplicateName, Ring, UnknownLanding, UnknownTown
from riverkeeps.names import MAX_ROOM, MAX_THINGS, MAX_TOWNS, check_name, is_liking


def check_counts(towns, things):
    """Raise BadCount if there are too few or too many rows."""
    if not 1 <= len(towns) <= MAX_TOWNS:
        raise BadCount("towns", len(towns))
    if len(things) > MAX_THINGS:
        raise BadCount("things", len(things))


def check_row_names(rows):
    """Raise BadName or DuplicateName for the first row with a wrong name."""
    seen = {}
    for row in rows:
        name = check_name(row[0])
        if name in seen:
            raise DuplicateName(name)
        seen[name] = True


def check_room(town, room):
    """Raise BadRoom unless the town may have this room."""
    if isinstance(room, bool) or not 0 <= room <= MAX_ROOM:
        raise BadRoom(town)


def check_liking(town, liking, things):
    """Raise BadLiking unless the town may have this liking of the things."""
    if not is_liking(liking, things):
        raise BadLiking(town)


def check_town_rows(towns, things):
    """Check the next town, the room and the liking of each town row."""
    town_names = [row[0] for row in towns]
    thing_names = [row[0] for row in things]
    for name, after, room, liking in towns:
        if after is not None and after not in town_names:
            raise UnknownTown(after)
        check_room(name, room)
        check_liking(name, liking, thing_names)


def check_springs(towns, things):
    """Raise UnknownTown for the first spring that is not a town."""
    town_names = [row[0] for row in towns]
    for _, spring in things:
        if spring not in town_names:
            raise UnknownTown(spring)


def check_rings(towns):
    """Raise Ring with the least town from which the sea is not reached."""
    next_towns = {row[0]: row[1] for row in towns}
    for name in sorted([row[0] for row in towns]):
        town = name
        # Whoever still follows after as many steps as there are towns is on a ring.
        for _ in range(len(towns)):
            if town is not None:
                town = next_towns[town]
        if town is not None:
            raise Ring(name)


def check_rows(towns, things):
    """Make the checks of a river in their order."""
    check_counts(towns, things)
    check_row_names(towns)
    check_row_names(things)
    check_town_rows(towns, things)
    check_springs(towns, things)
    check_rings(towns)


def towns_from(next_towns, town):
    """Return the towns from this one down to the last one before the sea."""
    towns = []
    while town is not None:
        towns.append(town)
        town = next_towns[town]
    return towns


class River:
    """A river, made of town rows (name, after, room, liking) and thing rows (name, spring)."""

    def __init__(self, towns, things):
        check_rows(towns, things)
        self._towns = sorted([row[0] for row in towns])
        self._things = sorted([row[0] for row in things])
        self._next_towns = {row[0]: row[1] for row in towns}
        self._rooms = {row[0]: row[2] for row in towns}
        self._likings = {row[0]: list(row[3]) for row in towns}
        self._sources = {row[0]: row[1] for row in things}
        self._paths = {row[0]: towns_from(self._next_towns, row[1]) for row in things}
        self._landings = [(thing, town) for thing in self._things for town in self._paths[thing]]
        self._numbers = {landing: number for number, landing in enumerate(self._landings)}

    @property
    def towns(self):
        """The names of the towns, ascending."""
        return list(self._towns)

    @property
    def things(self):
        """The names of the things, ascending."""
        return list(self._things)

    def after(self, town):
        """Return the next town, or None for the sea."""
        check_town(self, town)
        return self._next_towns[town]

    def room(self, town):
        """Return the room of the town."""
        check_town(self, town)
        return self._rooms[town]

    def liking(self, town):
        """Return the liking of the town, the best first."""
        check_town(self, town)
        return list(self._likings[town])

    def feeders(self, town):
        """Return the towns that have this one as their next town, ascending."""
        check_town(self, town)
        return [name for name in self._towns if self._next_towns[name] == town]

    def springs(self, town):
        """Return the things whose spring the town is, ascending."""
        check_town(self, town)
        return [name for name in self._things if self._sources[name] == town]

    def spring(self, thing):
        """Return the spring of the thing."""
        check_thing(self, thing)
        return self._sources[thing]

    def path(self, thing):
        """Return the towns from the spring of the thing down to the last one before the sea."""
        check_thing(self, thing)
        return list(self._paths[thing])

    def prefers(self, town, one, other):
        """Tell whether the town likes the first thing better than the second one."""
        check_town(self, town)
        check_thing(self, one)
        check_thing(self, other)
        return self._likings[town].index(one) < self._likings[town].index(other)

    def town_rows(self):
        """Return the town rows, ascending by name."""
        return [(town, self.after(town), self.room(town), self.liking(town)) for town in self._towns]

    def thing_rows(self):
        """Return the thing rows, ascending by name."""
        return [(thing, self._sources[thing]) for thing in self._things]

    def landings(self):
        """Return all landings of the river, in landing order."""
        return list(self._landings)

    def landing_number(self, landing):
        """Return the index of the landing in the landing order."""
        if landing not in self._numbers:
            raise UnknownLanding(landing)
        return self._numbers[landing]

    def __eq__(self, other):
        return (isinstance(other, River) and self._next_towns == other._next_towns and self._rooms == other._rooms
                and self._likings == other._likings and self._sources == other._sources)
