"""Alike pieces: pieces that cannot be told apart from outside, and the smaller form of a piece."""

from riverkeeps.errors import NotComparable, RiverError
from riverkeeps.kinds import is_list, is_number, is_row
from riverkeeps.names import restrict
from riverkeeps.pieces import Piece, check_inflow, filled, inflows, outflow
from riverkeeps.rivers import towns_from


def are_comparable(one, other):
    """Tell whether the pieces have the same own things, the same foreign things and equally many mouths."""
    return one.things == other.things and one.foreign == other.foreign and len(one.mouths) == len(other.mouths)


def check_comparable(one, other):
    """Raise NotComparable unless the pieces are comparable."""
    if not are_comparable(one, other):
        raise NotComparable()


def alike(one, other):
    """Tell whether the pieces have the same outflow for every inflow."""
    return telling_inflow(one, other) is None


def telling_inflow(one, other):
    """Return the first inflow for which the pieces have different outflows, or None."""
    check_comparable(one, other)
    for inflow in inflows(one):
        if outflow(one, inflow) != outflow(other, inflow):
            return inflow
    return None


def is_inflow(piece, inflow):
    """Judge whether the value is an inflow of the piece."""
    if not is_list(inflow) or not all([is_row(pair, 2) and is_number(pair[1]) for pair in inflow]):
        return False
    try:
        check_inflow(piece, inflow)
    except RiverError:
        return False
    return True


def is_telling(one, other, inflow):
    """Judge whether this is an inflow for which the pieces have different outflows."""
    check_comparable(one, other)
    return is_inflow(one, inflow) and outflow(one, inflow) != outflow(other, inflow)


def telling_rivers(one, other):
    """Return the two rivers of the pieces with the first inflow that tells them apart, or None."""
    inflow = telling_inflow(one, other)
    return None if inflow is None else (filled(one, inflow), filled(other, inflow))


def towns_below(piece):
    """Return a dict that tells for each town the towns from it down to the outlet."""
    next_towns = {row[0]: row[1] for row in piece.town_rows()}
    return {town: towns_from(next_towns, town) for town in piece.towns}


def arrivals_of(piece):
    """Return a dict that tells for each town the things that can ever land there."""
    below = towns_below(piece)
    arrivals = {}
    for town in piece.towns:
        arrivals[town] = [thing for thing, spring in piece.thing_rows() if town in below[spring]]
        if any([town in below[mouth] for mouth in piece.mouths]):
            arrivals[town].extend(piece.foreign)
    return arrivals


def smaller_liking(liking, arrivals, room):
    """Return the liking in which everything stands by its name whose rank makes no difference."""
    if room == 0:
        return sorted(liking)
    comers = restrict(liking, arrivals)
    return sorted(comers[:room]) + comers[room:] + sorted([thing for thing in liking if thing not in arrivals])


def heirs_of(piece, rooms):
    """Return a dict that tells for each town the first one down from it that is not taken out."""
    heirs = {}
    for town, below in towns_below(piece).items():
        heirs[town] = [other for other in below if rooms[other] > 0 or other == piece.outlet][0]
    return heirs


def smaller(piece):
    """Return the smaller form of the piece."""
    arrivals = arrivals_of(piece)
    rooms = {town: min(room, len(arrivals[town])) for town, _, room, _ in piece.town_rows()}
    heirs = heirs_of(piece, rooms)
    rows = []
    for town, after, _, liking in piece.town_rows():
        if heirs[town] == town:
            behind = None if after is None else heirs[after]
            rows.append((town, behind, rooms[town], smaller_liking(liking, arrivals[town], rooms[town])))
    things = [(thing, heirs[spring]) for thing, spring in piece.thing_rows()]
    return Piece(rows, things, mouths=[heirs[mouth] for mouth in piece.mouths], foreign=piece.foreign)


def is_simple(piece):
    """Tell whether the piece has one town, no own things, and exactly one mouth."""
    return len(piece.towns) == 1 and len(piece.things) == 0 and len(piece.mouths) == 1


def simply_alike(one, other):
    """Tell whether two simple pieces are alike, by their smaller forms."""
    check_comparable(one, other)
    if not is_simple(one) or not is_simple(other):
        raise NotComparable()
    _, _, room, liking = smaller(one).town_rows()[0]
    _, _, other_room, other_liking = smaller(other).town_rows()[0]
    return room == other_room and liking == other_liking
