"""Roads from one stage to another: roads.py, [31], [32]."""

import itertools
import random
import unittest

from riverkeeps.errors import DuplicateLanding, NoHistory, UnknownLanding
from riverkeeps.roads import deeds_between, guided_history, is_road, least_history, road
from tests.helpers import (
    A, A2, B, B2, C, C2, END, WRONG_LISTS, WRONG_STAGES, bare, example, forked, fresh, raises, same, two_seas, wrong)
from tests.model import Model, small_rivers

RIVERS = small_rivers(14, least=3, most=6) + [example(), two_seas(), bare()]


def pairs_of_stages(model):
    """Each two stages of a small river, with the histories from the one to the other in the order of [46]."""
    stages = list(model.stages())
    for one in stages:
        onward = model.onward(one)
        for other in stages:
            yield one, other, onward.get(other, [])


def guided(model, one, other, wish):
    """The guided history, by the words of the interface and the rule of [18]."""
    places, history = model.stages()[frozenset(one)], []
    while set(one).union(history) != set(other):
        ready = [landing for landing in model.free(places) if landing in other]
        landing = min(ready, key=lambda item: (list(wish) + model.landings).index(item))
        history.append(landing)
        places = model.land(places, landing[0])[0]
    return history


class LeastHistory(unittest.TestCase):

    def test_answers(self):
        same(self, least_history(example(), [], END), [A, B, B2, C, C2])
        same(self, least_history(river=example(), one=(C,), other=(C2, C, B, A)), [A, B, C2])
        same(self, least_history(example(), [], []), [])
        same(self, least_history(example(), END, list(reversed(END))), [])
        same(self, least_history(bare(), [], []), [])

    def test_a_later_landing_may_have_to_come_first(self):
        # The least landing that is free comes first at each step, also one that has just become free.
        river = forked()
        model = Model(river)
        stages = sorted(model.stages(), key=lambda stage: (len(stage), model.ordered(stage)))
        for stage in stages:
            same(self, least_history(river, [], sorted(stage)), guided(model, [], stage, []))

    def test_a_history_is_there_exactly_if_every_landing_is_in_the_other_stage(self):
        for river in RIVERS:
            model = Model(river)
            for one, other, histories in pairs_of_stages(model):
                self.assertIs(bool(histories), one <= other)
                for call in (least_history, guided_history, deeds_between):
                    if histories:
                        expected = len(histories[0]) if call is deeds_between else histories[0]
                        same(self, call(river, sorted(one), sorted(other)), expected)
                    else:
                        missing = model.ordered(one - other)[0]
                        raises(self, NoHistory, {"landing": missing}, call, river, sorted(one), sorted(other))

    def test_no_history(self):
        for call in (least_history, guided_history, deeds_between):
            raises(self, NoHistory, {"landing": A}, call, example(), (C2, C, A), (C, B))
            raises(self, NoHistory, {"landing": C}, call, example(), [C2, C], [])
            # The order of the landings is not Python's order of tuples.
            raises(self, NoHistory, {"landing": ("c", "side")}, call, example(), [("c", "mid"), ("c", "side")], [A])

    def test_wrong_stages(self):
        for call in (least_history, guided_history, deeds_between, road):
            wrong(self, WRONG_STAGES, call, [A2, A2])
            for error, landing, landings in WRONG_STAGES:
                raises(self, error, {"landing": landing}, call, example(), [A], landings)

    def test_nothing_is_changed(self):
        fresh(self, least_history, example(), [C], [C2, C, B, A])
        fresh(self, guided_history, example(), [C], [C2, C, B, A], wish=[C2])
        fresh(self, road, example(), [C], [C2, C, B, A])


class GuidedHistory(unittest.TestCase):

    def test_without_a_wish(self):
        same(self, guided_history(example(), [], END), [A, B, B2, C, C2])
        same(self, guided_history(example(), [], END, wish=[]), [A, B, B2, C, C2])
        same(self, guided_history(example(), [C], END, wish=()), [A, B, B2, C2])
        same(self, guided_history(bare(), [], []), [])

    def test_wishes(self):
        same(self, guided_history(example(), [], END, wish=[C2, B, C]), [B, C, C2, A, B2])
        # Wished landings that are not free yet are passed over, until they are.
        same(self, guided_history(example(), [], END, wish=(B2, C)), [C, A, B, B2, C2])
        same(self, guided_history(river=example(), one=(), other=END, wish=[C2, C, B2, B, A]), [C, C2, B, A, B2])

    def test_wished_landings_that_have_no_effect(self):
        # A2 is in no stage, B2 and C2 are outside of `other`, and C is in `one` already.
        same(self, guided_history(example(), [C], [A, B, C], wish=[A2, B2, C2, C, B]), [B, A])
        same(self, guided_history(example(), [C], [C], wish=[A, C]), [])

    def test_random_wishes(self):
        chance = random.Random(31)
        for river in RIVERS + [forked()]:
            model = Model(river)
            end = model.end()
            for one in list(model.stages())[:12]:
                for _ in range(4):
                    wish = chance.sample(model.landings, chance.randint(0, len(model.landings)))
                    same(self, guided_history(river, sorted(one), end[::-1], wish=wish),
                         guided(model, one, end, wish))

    def test_wrong_wishes_come_behind_the_stages_and_ahead_of_no_history(self):
        for error, landing, landings in WRONG_LISTS:
            raises(self, error, {"landing": landing}, guided_history, example(), [A], [B], wish=landings)
            raises(self, error, {"landing": landing}, guided_history, example(), [], landings, wish=[A, A])
            raises(self, error, {"landing": landing}, guided_history, example(), landings, [], wish=[A, A])
        raises(self, UnknownLanding, {"landing": ("x", "y")}, guided_history, example(), [], [A], wish=(B, ("x", "y")))
        raises(self, DuplicateLanding, {"landing": B}, guided_history, example(), [], [A], wish=(B, A2, B))
        raises(self, NoHistory, {"landing": A}, guided_history, example(), [A], [B], wish=[A2])
        # A wish need not be a stage.
        same(self, guided_history(example(), [], [A], wish=[A2]), [A])


class DeedsBetween(unittest.TestCase):

    def test_answers(self):
        same(self, deeds_between(example(), [], END), 5)
        same(self, deeds_between(river=example(), one=(A, C), other=END), 3)
        same(self, deeds_between(example(), END, END), 0)
        same(self, deeds_between(bare(), (), []), 0)


class Road(unittest.TestCase):

    def test_both_words(self):
        same(self, road(example(), [], END), ("history", [A, B, B2, C, C2]))
        same(self, road(example(), (C, A), (A, C)), ("history", []))
        same(self, road(river=example(), one=(C2, C, A), other=(C, B)), ("missing", A))
        same(self, road(example(), [C, C2], [A]), ("missing", C))
        same(self, road(bare(), [], []), ("history", []))

    def test_all_pairs_of_stages(self):
        for river in RIVERS:
            model = Model(river)
            for one, other, histories in pairs_of_stages(model):
                expected = ("history", histories[0]) if histories else ("missing", model.ordered(one - other)[0])
                same(self, road(river, sorted(one), sorted(other)), expected)
                self.assertIs(is_road(river, sorted(one), sorted(other), expected), True)


class IsRoad(unittest.TestCase):

    def test_right_papers(self):
        self.assertIs(is_road(example(), [], END, ("history", [C, B, C2, A, B2])), True)
        self.assertIs(is_road(example(), (C,), (B, C, A), ("history", (B, A))), True)
        self.assertIs(is_road(river=example(), one=[A], other=(A,), paper=("history", ())), True)
        for landing in (A, C2, C):
            self.assertIs(is_road(example(), [A, B, C, C2], [B], ("missing", landing)), True)

    def test_wrong_histories(self):
        # It stops short, has one landing too many, is in a wrong order, repeats, or has what the river does not have.
        for history in ([], [A], [A, B, C], [B2, A, B], [A, B2, B], [A, B, B], [A, A, B, B2], [A, B, B2, B2],
                        [A, B, ("b", "side")], [A, B, ("x", "mid")], [A, B, ("", "")], [A2, B, B2], [A, B, ("b", "x")]):
            self.assertIs(is_road(example(), [], [A, B, B2], ("history", history)), False)
            self.assertIs(is_road(example(), [], [A, B, B2], ("history", tuple(history))), False)
        self.assertIs(is_road(example(), [A], [A], ("history", [B])), False)
        self.assertIs(is_road(example(), [A], [B], ("history", [B])), False)
        self.assertIs(is_road(example(), [A], [], ("history", [])), False)
        self.assertIs(is_road(example(), [A], [A, B], ("history", [A, B])), False)

    def test_wrong_missing_landings(self):
        # In both, in neither, in `other` alone, and no landing at all.
        for landing in (A, C, B, C2, A2, ("x", "y"), ("a", "side"), ("", "")):
            self.assertIs(is_road(example(), [A, C], [A, B, C], ("missing", landing)), False)
        for landing in (A, B, C2, A2, ("x", "y")):
            self.assertIs(is_road(example(), [A, C], [A, B], ("missing", landing)), False)

    def test_other_words(self):
        for word in ("", "History", "blocked", "road", "stuck", "kept", "history ", "missing landing"):
            for value in ([A, B], (A, B), A, None, []):
                self.assertIs(is_road(example(), [], [A, B], (word, value)), False)
                self.assertIs(is_road(example(), [A], [B], (word, value)), False)

    def test_every_history_of_small_rivers(self):
        for river in RIVERS[:8] + [example()]:
            model = Model(river)
            histories = [history for history, _ in model.histories()]
            for history, other in itertools.product(histories[:60], list(model.stages())[:20]):
                self.assertIs(is_road(river, [], sorted(other), ("history", history)), frozenset(history) == other)
            for one, other, found in pairs_of_stages(model):
                for history in found[:5]:
                    self.assertIs(is_road(river, sorted(one), sorted(other), ("history", history)), True)
                for landing in model.landings:
                    self.assertIs(is_road(river, sorted(one), sorted(other), ("missing", landing)),
                                  landing in one - other)

    def test_wrong_stages(self):
        wrong(self, WRONG_STAGES, is_road, [A2, A2], ("history", []))
        for error, landing, landings in WRONG_STAGES:
            raises(self, error, {"landing": landing}, is_road, example(), [A], landings, ("nothing", None))

    def test_nothing_is_changed(self):
        fresh(self, is_road, example(), [C], [B, A, C], ("history", [B, A]))


if __name__ == "__main__":
    unittest.main()
