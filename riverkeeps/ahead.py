"""What must come ahead: landings that must precede others, and orders of landings that can be kept."""

from riverkeeps.checks import check_landing, check_pair_count
from riverkeeps.deeds import is_history
from riverkeeps.ends import end_stage, end_world
from riverkeeps.errors import NeverDone, SameLanding, TooMany
from riverkeeps.places import free_under
from riverkeeps.roads import history_between
from riverkeeps.stages import free_landings, greatest_stage, is_stage
from riverkeeps.worlds import World

MAX_AHEAD = 24


def check_done(river, end, landing):
    """Raise UnknownLanding or NeverDone unless the landing is in the end."""
    check_landing(river, landing)
    if landing not in end:
        raise NeverDone(landing)


def check_two(river, end, first, then):
    """Raise an error unless these are two different landings of the end."""
    check_done(river, end, first)
    check_done(river, end, then)
    if first == then:
        raise SameLanding(first)


def check_order(river, pairs):
    """Raise an error unless these are pairs of two different landings of the end, and not too many."""
    check_pair_count(pairs)
    end = end_stage(river)
    for first, then in pairs:
        check_two(river, end, first, then)


def check_end_size(end):
    """Raise TooMany if the end has too many landings."""
    if len(end) > MAX_AHEAD:
        raise TooMany(MAX_AHEAD)


def greatest_without(river, landing):
    """Return the greatest stage without the landing, a stage list."""
    return greatest_stage(river, without=[landing])


def must_precede(river, first, then):
    """Tell whether every history that does the second landing does the first one before it."""
    check_two(river, end_stage(river), first, then)
    return then not in greatest_without(river, first)


def precedence_paper(river, first, then):
    """Return a paper that shows whether the first landing must precede the second one."""
    check_two(river, end_stage(river), first, then)
    greatest = greatest_without(river, first)
    if then not in greatest:
        return ("blocked", greatest)
    history = history_between(river, [], greatest, [])
    return ("history", history[:history.index(then) + 1])


def is_precedence_paper(river, first, then, paper):
    """Judge whether the precedence paper is right."""
    check_two(river, end_stage(river), first, then)
    word, value = paper
    if word == "history":
        return then in value and value[-1] == then and first not in value and is_history(World(river), value)
    if word != "blocked" or first in value or then in value or not is_stage(river, value):
        return False
    return free_landings(river, value) == [first]


def needed_before(river, landing):
    """Return the landings that must precede this one, in landing order."""
    end = end_stage(river)
    check_done(river, end, landing)
    check_end_size(end)
    return [other for other in end if other != landing and landing not in greatest_without(river, other)]


def precedences(river):
    """Return all pairs of landings of the end of which the first one must precede the second one."""
    end = end_stage(river)
    check_end_size(end)
    pairs = []
    for first in end:
        greatest = greatest_without(river, first)
        pairs.extend([(first, then) for then in end if then != first and then not in greatest])
    return pairs


def is_barred(pairs, done, landing):
    """Tell whether a landing that should come before this one has not been done."""
    return any([then == landing and first not in done for first, then in pairs])


def order_paper(river, pairs):
    """Return a paper that shows whether a history from the start to the end keeps the pairs."""
    check_order(river, pairs)
    done = {}
    history = []
    free = free_under(river, done)
    while free:
        ready = [landing for landing in free if not is_barred(pairs, done, landing)]
        if not ready:
            return ("stuck", [landing for landing in river.landings() if landing in done])
        done[ready[0]] = True
        history.append(ready[0])
        free = free_under(river, done)
    return ("history", history)


def keeps_order(pairs, history):
    """Tell whether the history, which does the landings of the pairs, keeps the pairs."""
    numbers = {landing: at for at, landing in enumerate(history)}
    return all([numbers[first] < numbers[then] for first, then in pairs])


def is_stuck(river, pairs, stage):
    """Tell whether the list is a stage, but not the end, of which the pairs bar every free landing."""
    if not is_stage(river, stage):
        return False
    free = free_landings(river, stage)
    return free != [] and all([is_barred(pairs, stage, landing) for landing in free])


def is_order_paper(river, pairs, paper):
    """Judge whether the order paper is right."""
    check_order(river, pairs)
    word, value = paper
    if word == "history":
        return is_history(World(river), value, goal=end_world(river)) and keeps_order(pairs, value)
    return word == "stuck" and is_stuck(river, pairs, value)
