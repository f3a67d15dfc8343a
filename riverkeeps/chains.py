"""Chains: how a chain turn changes the end, from town to town."""

from riverkeeps.ends import end_stage, end_world, floated_at_end
from riverkeeps.turns import check_chain_word, turned


def first_other(things, others):
    """Return the first of the things that is not among the others, or None."""
    for thing in things:
        if thing not in others:
            return thing
    return None


def chain_start(river, turn):
    """Return the town of the first chain row, what no longer comes there, and what newly comes there."""
    word, name = turn[:2]
    if word == "add":
        return (turn[2], None, name)
    if word == "drop":
        return (river.spring(name), name, None)
    return (name, None, None)


def chain_between(river, changed, turn):
    """Return the chain rows of a chain turn that leads from one river to the other."""
    old = floated_at_end(river)
    new = floated_at_end(changed)
    town, gone, come = chain_start(river, turn)
    rows = []
    while town is not None:
        gone_out = first_other(old[town], new[town])
        come_out = first_other(new[town], old[town])
        rows.append((town, gone, come, gone_out, come_out))
        gone, come = gone_out, come_out
        # What changes nothing below a town ends the chain, as the sea does.
        town = None if gone is None and come is None else river.after(town)
    return rows


def chain(river, turn):
    """Return the chain rows (town, gone_in, come_in, gone_out, come_out) of the chain turn."""
    check_chain_word(turn)
    return chain_between(river, turned(river, turn), turn)


def is_chain(river, turn, rows):
    """Judge whether the rows are the chain of the chain turn."""
    return list(rows) == chain(river, turn)


def end_by_chain(river, turn):
    """Return the end of the river after the chain turn, as the chain tells it."""
    check_chain_word(turn)
    changed = turned(river, turn)
    rows = chain_between(river, changed, turn)
    gone_landings = [(gone, town) for town, gone, _, _, _ in rows]
    come_landings = [(come, town) for town, _, come, _, _ in rows]
    end = [landing for landing in end_stage(river) if landing not in gone_landings] + come_landings
    return [landing for landing in changed.landings() if landing in end]


def moved(river, turn):
    """Return the tuples (thing, before, after) of the things that the chain turn moves at the end."""
    check_chain_word(turn)
    old = end_world(river)
    new = end_world(turned(river, turn))
    things = [thing for thing in old.river.things if thing in new.river.things]
    pairs = [(thing, old.place(thing), new.place(thing)) for thing in things]
    return [(thing, before, after) for thing, before, after in pairs if before != after]
