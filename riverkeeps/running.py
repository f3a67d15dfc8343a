"""Running orders in all stages of a river, and comparing what two orders do."""

from riverkeeps.flow import in_order
from riverkeeps.listing import list_stages
from riverkeeps.orders import trace
from riverkeeps.worlds import World

MAX_ORDER_STAGES = 32


def result_in(order, world):
    """Return the stage list in which the run of the order ends, or None if it is refused."""
    history, _, cause = trace(order, world)
    return in_order(world.river, world.stage + history) if cause is None else None


def agree(world, one, other):
    """Tell whether both orders are refused in the world, or lead to the same world."""
    return result_in(one, world) == result_in(other, world)


def parting_stage(river, one, other):
    """Return the first stage in whose world the two orders do not agree, or None."""
    for stage in list_stages(river, limit=MAX_ORDER_STAGES):
        if not agree(World(river, stage=stage), one, other):
            return stage
    return None


def are_alike(river, one, other):
    """Tell whether the two orders agree in the worlds of all stages of the river."""
    return parting_stage(river, one, other) is None


def results(river, order):
    """Return the pairs (stage, result) of all stages of the river, in stage order."""
    stages = list_stages(river, limit=MAX_ORDER_STAGES)
    return [(stage, result_in(order, World(river, stage=stage))) for stage in stages]
