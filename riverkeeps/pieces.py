"""Pieces: parts of a river that are looked at by themselves, and what flows out of them."""

from riverkeeps.checks import check_number
from riverkeeps.ends import leaving
from riverkeeps.errors import BadCount, BadOutlet, DuplicateName, TooMany, UnknownThing, UnknownTown
from riverkeeps.names import restrict
from riverkeeps.rivers import River, check_counts, check_rings, check_row_names, check_springs, check_town_rows

MAX_INFLOWS = 256
MAX_MOUTHS = 3


def check_outlet(towns):
    """Raise BadOutlet unless exactly one of the town rows has no next town."""
    if len([row for row in towns if row[1] is None]) != 1:
        raise BadOutlet()


def check_mouths(towns, mouths):
    """Raise BadCount or UnknownTown unless the mouths are at towns of the rows."""
    if len(mouths) > MAX_MOUTHS:
        raise BadCount("mouths", len(mouths))
    names = [row[0] for row in towns]
    for mouth in mouths:
        if mouth not in names:
            raise UnknownTown(mouth)


def check_piece(towns, things, mouths, foreign):
    """Make the checks of a piece in their order."""
    named = list(things) + [(name, None) for name in foreign]
    check_counts(towns, named)
    check_row_names(towns)
    check_row_names(named)
    check_town_rows(towns, named)
    check_springs(towns, things)
    check_rings(towns)
    check_outlet(towns)
    check_mouths(towns, mouths)


class Piece:
    """A piece, made of town rows, rows of its own things, the towns of its mouths, and foreign things."""

    def __init__(self, towns, things, *, mouths=(), foreign=()):
        check_piece(towns, things, mouths, foreign)
        self._towns = sorted([row[0] for row in towns])
        self._things = sorted([row[0] for row in things])
        self._town_rows = {row[0]: (row[0], row[1], row[2], list(row[3])) for row in towns}
        self._sources = {row[0]: row[1] for row in things}
        self._mouths = list(mouths)
        self._foreign = sorted(list(foreign))

    @property
    def towns(self):
        """The names of the towns, ascending."""
        return list(self._towns)

    @property
    def things(self):
        """The names of the own things, ascending."""
        return list(self._things)

    @property
    def foreign(self):
        """The names of the foreign things, ascending."""
        return list(self._foreign)

    @property
    def mouths(self):
        """The towns of the mouths, in the order of their numbers."""
        return list(self._mouths)

    @property
    def outlet(self):
        """The town behind which the rest of the river begins."""
        return [town for town in self._towns if self._town_rows[town][1] is None][0]

    def town_rows(self):
        """Return the town rows, ascending by name."""
        rows = [self._town_rows[town] for town in self._towns]
        return [(town, after, room, list(liking)) for town, after, room, liking in rows]

    def thing_rows(self):
        """Return the rows of the own things, ascending by name."""
        return [(thing, self._sources[thing]) for thing in self._things]

    def __eq__(self, other):
        return (isinstance(other, Piece) and self._town_rows == other._town_rows and self._sources == other._sources
                and self._mouths == other._mouths and self._foreign == other._foreign)


def check_inflow(piece, inflow):
    """Raise an error unless the pairs tell foreign things and numbers of mouths."""
    seen = {}
    for thing, mouth in inflow:
        if thing not in piece.foreign:
            raise UnknownThing(thing)
        if thing in seen:
            raise DuplicateName(thing)
        seen[thing] = True
        check_number(mouth, 0, len(piece.mouths) - 1)


def filled(piece, inflow):
    """Return the river of the piece, with the sea behind its outlet, into which the inflow has come."""
    check_inflow(piece, inflow)
    things = piece.thing_rows() + [(thing, piece.mouths[mouth]) for thing, mouth in inflow]
    names = [row[0] for row in things]
    rows = [(town, after, room, restrict(liking, names)) for town, after, room, liking in piece.town_rows()]
    return River(rows, things)


def outflow(piece, inflow):
    """Return the things that come to the sea from the filled piece by the end, ascending."""
    return sorted(leaving(filled(piece, inflow), piece.outlet))


def inflow_place(inflow):
    """Return what tells the place of an inflow in inflow order."""
    return (len(inflow), inflow)


def inflows(piece):
    """Return all inflows of the piece, in inflow order."""
    mouths = list(range(len(piece.mouths)))
    found = [[]]
    for thing in piece.foreign:
        found = found + [inflow + [(thing, mouth)] for inflow in found for mouth in mouths]
        if len(found) > MAX_INFLOWS:
            raise TooMany(MAX_INFLOWS)
    return sorted(found, key=inflow_place)


def outflow_table(piece):
    """Return the pairs (inflow, outflow) of all inflows, in inflow order."""
    return [(inflow, outflow(piece, inflow)) for inflow in inflows(piece)]
