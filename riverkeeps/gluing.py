"""Gluing: cutting a part out of a river, putting a piece in its place, and joining two pieces."""

from riverkeeps.alike import check_comparable
from riverkeeps.checks import check_number, check_town
from riverkeeps.ends import floated_at_end
from riverkeeps.errors import BadCount, BadOutlet, DuplicateName, NotComparable
from riverkeeps.names import MAX_TOWNS
from riverkeeps.pieces import MAX_MOUTHS, Piece
from riverkeeps.rivers import River


def outlets_of(river, towns):
    """Return those of the towns whose next town is not among them."""
    return [town for town in towns if river.after(town) not in towns]


def outer_feeders(river, towns):
    """Return the other towns whose next town is among the towns, ascending."""
    return [town for town in river.towns if town not in towns and river.after(town) in towns]


def check_mouth_count(many):
    """Raise BadCount if there are too many mouths."""
    if many > MAX_MOUTHS:
        raise BadCount("mouths", many)


def check_town_count(many):
    """Raise BadCount if there are too many towns."""
    if many > MAX_TOWNS:
        raise BadCount("towns", many)


def check_part(river, towns):
    """Raise an error unless the towns tell a part of the river."""
    seen = {}
    for town in towns:
        check_town(river, town)
        if town in seen:
            raise DuplicateName(town)
        seen[town] = True
    if len(towns) == 0:
        raise BadCount("towns", 0)
    if len(outlets_of(river, towns)) != 1:
        raise BadOutlet()
    check_mouth_count(len(outer_feeders(river, towns)))


def check_other_names(names, others):
    """Raise DuplicateName with the least of the names that is among the others."""
    common = sorted([name for name in names if name in others])
    if common:
        raise DuplicateName(common[0])


def with_outlet_to(rows, behind):
    """Return the town rows of a piece in which the outlet has a next town, or the sea."""
    return [(town, behind if after is None else after, room, liking) for town, after, room, liking in rows]


def part_of(river, towns):
    """Return the piece of the part that the towns are known to tell."""
    rows = []
    for town in towns:
        after = river.after(town)
        rows.append((town, after if after in towns else None, river.room(town), river.liking(town)))
    own = [row for row in river.thing_rows() if row[1] in towns]
    foreign = [thing for thing, spring in river.thing_rows() if spring not in towns]
    return Piece(rows, own, mouths=[river.after(town) for town in outer_feeders(river, towns)], foreign=foreign)


def cut_out(river, towns):
    """Return the piece of the part that the towns tell."""
    check_part(river, towns)
    return part_of(river, towns)


def inflow_at_end(river, towns):
    """Return the pairs (thing, mouth) of what comes into the part by the end, ascending."""
    check_part(river, towns)
    floated = floated_at_end(river)
    return sorted([(thing, mouth) for mouth, feeder in enumerate(outer_feeders(river, towns))
                   for thing in floated[feeder]])


def put_in(river, towns, piece):
    """Return the river in which the piece stands in the place of the part that the towns tell."""
    check_part(river, towns)
    check_comparable(part_of(river, towns), piece)
    stayers = [town for town in river.towns if town not in towns]
    check_town_count(len(stayers) + len(piece.towns))
    check_other_names(piece.towns, stayers)
    mouths = {feeder: mouth for feeder, mouth in zip(outer_feeders(river, towns), piece.mouths)}
    rows = with_outlet_to(piece.town_rows(), river.after(outlets_of(river, towns)[0]))
    for town in stayers:
        rows.append((town, mouths.get(town, river.after(town)), river.room(town), river.liking(town)))
    return River(rows, piece.thing_rows() + [row for row in river.thing_rows() if row[1] not in towns])


def check_fitting_things(upper, lower):
    """Raise NotComparable unless both pieces have the same things in all and no own thing in common."""
    same = sorted(upper.things + upper.foreign) == sorted(lower.things + lower.foreign)
    if not same or any([thing in lower.things for thing in upper.things]):
        raise NotComparable()


def joined(upper, lower, mouth):
    """Return the piece in which the outlet of the upper piece leads to the mouth of the lower one."""
    check_number(mouth, 0, len(lower.mouths) - 1)
    check_fitting_things(upper, lower)
    check_town_count(len(upper.towns) + len(lower.towns))
    mouths = lower.mouths[:mouth] + upper.mouths + lower.mouths[mouth + 1:]
    check_mouth_count(len(mouths))
    check_other_names(upper.towns, lower.towns)
    rows = with_outlet_to(upper.town_rows(), lower.mouths[mouth]) + lower.town_rows()
    foreign = [thing for thing in lower.foreign if thing not in upper.things]
    return Piece(rows, upper.thing_rows() + lower.thing_rows(), mouths=mouths, foreign=foreign)
