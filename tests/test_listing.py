"""Lists of stages: listing.py, [43] to [45]."""

import itertools
import unittest

from riverkeeps.errors import BadNumber, NoHistory, TooMany, UnknownLanding
from riverkeeps.listing import (
    count_stages, layers, list_stages, root_stages, roots_within, stage_at, stage_number)
from riverkeeps.rivers import River
from tests.helpers import (
    A, A2, B, B2, C, C2, END, WRONG_STAGES, bare, example, forked, fresh, raises, same, two_seas, wrong)
from tests.model import Model, small_rivers

RIVERS = small_rivers(14, least=3, most=7) + [example(), two_seas(), bare(), forked()]


def product_river(*lengths):
    """A river of rooms 0 in which the things float past each other; each passes so many towns."""
    things = [(f"h{at}", f"t{8 - length}") for at, length in enumerate(lengths)]
    liking = [thing for thing, _ in things]
    return River([(f"t{at}", f"t{at + 1}" if at < 7 else None, 0, liking) for at in range(8)], things)


def just_enough():
    """A river of exactly 400 stages, whose things push each other out."""
    return River([("t0", "t2", 1, ["h3", "h1", "h0", "h2", "h5", "h4"]),
                  ("t1", "t0", 0, ["h1", "h4", "h2", "h5", "h0", "h3"]),
                  ("t2", None, 0, ["h2", "h4", "h0", "h3", "h5", "h1"])],
                 [("h0", "t2"), ("h1", "t0"), ("h2", "t1"), ("h3", "t1"), ("h4", "t1"), ("h5", "t2")])


def stages_in_order(model):
    """All stages in stage order, by the words of [43]."""
    return sorted([model.ordered(stage) for stage in model.stages()],
                  key=lambda stage: (len(stage), [model.landings.index(landing) for landing in stage]))


def between(stages, low, high):
    return [stage for stage in stages if set(low) <= set(stage) <= set(high)]


def roots(stages):
    """The pairs of a landing and a root stage of it, by the words of [45]."""
    found = []
    for stage in stages:
        for landing in stage:
            inside = [other for other in stages if landing in other and set(other) < set(stage)]
            if not inside:
                found.append((landing, stage))
    return found


class ListStages(unittest.TestCase):

    def test_all_stages(self):
        same(self, list_stages(example()), [
            [], [A], [B], [C], [A, B], [A, C], [B, C], [C, C2], [A, B, B2], [A, B, C], [A, C, C2], [B, C, C2],
            [A, B, B2, C], [A, B, C, C2], [A, B, B2, C, C2]])
        same(self, list_stages(river=bare()), [[]])
        for river in RIVERS + [product_river(2, 1, 3)]:
            same(self, list_stages(river), stages_in_order(Model(river)))
            same(self, list_stages(river, low=[], high=None, limit=400), stages_in_order(Model(river)))

    def test_stage_order_is_not_the_order_of_tuples(self):
        # Landings are ordered along the path: ("h0", "t6") comes before ("h0", "t7"), and here side before mid.
        river = River([("z", "a", 0, ["x", "y"]), ("a", None, 0, ["x", "y"])], [("x", "z"), ("y", "z")])
        same(self, list_stages(river, low=[("x", "z")])[:3],
             [[("x", "z")], [("x", "z"), ("x", "a")], [("x", "z"), ("y", "z")]])

    def test_low_and_high(self):
        same(self, list_stages(example(), low=[C]), [
            [C], [A, C], [B, C], [C, C2], [A, B, C], [A, C, C2], [B, C, C2], [A, B, B2, C], [A, B, C, C2], END])
        same(self, list_stages(example(), high=(B, A)), [[], [A], [B], [A, B]])
        same(self, list_stages(example(), high=[]), [[]])
        same(self, list_stages(example(), high=()), [[]])
        same(self, list_stages(example(), low=(C, A), high=(C2, C, A)), [[A, C], [A, C, C2]])
        same(self, list_stages(example(), low=END), [END])
        same(self, list_stages(example(), low=[A], high=[A]), [[A]])

    def test_all_pairs_of_stages(self):
        for river in RIVERS[:9]:
            model = Model(river)
            stages = stages_in_order(model)
            for low, high in itertools.product(stages[:25], stages):
                expected = between(stages, low, high)
                if set(low) <= set(high):
                    same(self, list_stages(river, low=low[::-1], high=high[::-1]), expected)
                    same(self, count_stages(river, low=low[::-1], high=high[::-1]), len(expected))
                else:
                    missing = [landing for landing in low if landing not in high][0]
                    raises(self, NoHistory, {"landing": missing}, list_stages, river, low=low, high=high)

    def test_the_limit(self):
        same(self, list_stages(example(), limit=15), list_stages(example()))
        raises(self, TooMany, {"limit": 14}, list_stages, example(), limit=14)
        raises(self, TooMany, {"limit": 1}, list_stages, example(), limit=1)
        same(self, list_stages(example(), low=END, limit=1), [END])
        same(self, list_stages(bare(), limit=1), [[]])
        for limit in (0, 401, -1, True, False, 10 ** 59):
            raises(self, BadNumber, {"number": limit}, list_stages, example(), limit=limit)
            raises(self, BadNumber, {"number": limit}, list_stages, example(), low=[A], high=[B], limit=limit)
        for river in RIVERS:
            many = len(stages_in_order(Model(river)))
            if many > 1:
                raises(self, TooMany, {"limit": many - 1}, list_stages, river, limit=many - 1)
            self.assertEqual(len(list_stages(river, limit=many)), many)

    def test_the_order_of_the_checks(self):
        for error, landing, landings in WRONG_STAGES:
            for kind in (list, tuple):
                raises(self, error, {"landing": landing}, list_stages, example(), low=kind(landings), high=[A2],
                       limit=0)
                raises(self, error, {"landing": landing}, list_stages, example(), low=[A], high=kind(landings),
                       limit=0)
                raises(self, error, {"landing": landing}, count_stages, example(), low=kind(landings), high=[A2])
                raises(self, error, {"landing": landing}, count_stages, example(), low=[A], high=kind(landings))
        large = product_river(8, 8, 8)
        top = ("h0", "t0")
        for call in (list_stages, count_stages):
            raises(self, NoHistory, {"landing": top}, call, large, low=[top], high=[])
            raises(self, NoHistory, {"landing": A}, call, example(), low=(C2, C, A), high=[C])
        raises(self, NoHistory, {"landing": C}, list_stages, example(), low=(C2, C, A), high=[A], limit=1)

    def test_rivers_of_400_stages_and_of_more(self):
        for river in (product_river(7, 4, 4, 1), just_enough()):
            stages = list_stages(river)
            self.assertEqual(len(stages), 400)
            same(self, stages, stages_in_order(Model(river)))
            same(self, count_stages(river), 400)
            raises(self, TooMany, {"limit": 399}, list_stages, river, limit=399)
        large = product_river(8, 8, 4)
        for call in (list_stages, count_stages, layers):
            raises(self, TooMany, {"limit": 400}, call, large)
        raises(self, TooMany, {"limit": 7}, list_stages, large, limit=7)
        # Far more stages than could be listed at all.
        huge = product_river(8, 8, 8, 8, 8, 8, 8, 8, 8, 8)
        raises(self, TooMany, {"limit": 400}, list_stages, huge)
        raises(self, TooMany, {"limit": 400}, count_stages, huge)
        same(self, count_stages(huge, high=[("h0", "t0"), ("h3", "t0")]), 4)

    def test_nothing_is_changed(self):
        fresh(self, list_stages, example(), low=[C], high=[C2, C, A])
        fresh(self, list_stages, example())


class Numbers(unittest.TestCase):

    def test_count_and_layers(self):
        same(self, count_stages(example()), 15)
        same(self, count_stages(river=example(), low=[C], high=[C, C2]), 2)
        same(self, layers(example()), [1, 3, 4, 4, 2, 1])
        same(self, layers(river=bare()), [1])
        for river in RIVERS + [product_river(7, 4, 4, 1)]:
            stages = stages_in_order(Model(river))
            same(self, count_stages(river), len(stages))
            same(self, layers(river), [len([stage for stage in stages if len(stage) == many])
                                       for many in range(len(stages[-1]) + 1)])
        fresh(self, layers, example())

    def test_number_and_stage_are_inverse(self):
        for river in RIVERS + [just_enough()]:
            for number, stage in enumerate(stages_in_order(Model(river))):
                same(self, stage_number(river, stage[::-1]), number)
                same(self, stage_at(river, number), stage)

    def test_stage_number(self):
        same(self, stage_number(river=example(), stage=(C2, C)), 7)
        same(self, stage_number(bare(), []), 0)
        wrong(self, WRONG_STAGES, stage_number)
        large = product_river(8, 8, 4)
        raises(self, TooMany, {"limit": 400}, stage_number, large, [])
        raises(self, UnknownLanding, {"landing": A}, stage_number, large, [A])

    def test_stage_at(self):
        same(self, stage_at(river=example(), number=0), [])
        same(self, stage_at(example(), 14), END)
        for number in (-1, 15, True, False, 10 ** 59):
            raises(self, BadNumber, {"number": number}, stage_at, example(), number)
            raises(self, TooMany, {"limit": 400}, stage_at, product_river(8, 8, 4), number)
        for number in (1, False):
            raises(self, BadNumber, {"number": number}, stage_at, bare(), number)
        raises(self, TooMany, {"limit": 400}, stage_at, product_river(8, 8, 4), 0)
        same(self, stage_at(just_enough(), 399), Model(just_enough()).end())
        raises(self, BadNumber, {"number": 400}, stage_at, just_enough(), 400)

    def test_nothing_is_changed(self):
        fresh(self, stage_at, example(), 9)
        fresh(self, stage_number, example(), [C2, C])


class Roots(unittest.TestCase):

    def test_root_stages(self):
        same(self, root_stages(example(), B2), [[A, B, B2]])
        same(self, root_stages(river=example(), landing=C), [[C]])
        same(self, root_stages(example(), C2), [[C, C2]])
        # A landing outside of the end.
        same(self, root_stages(example(), A2), [])

    def test_several_root_stages_of_different_sizes(self):
        # Either x, which is at the top, or w, which must float past a town first, pushes z out.
        river = River([("pond", "top", 0, ["w", "x", "z"]), ("top", "low", 1, ["w", "x", "z"]),
                       ("low", None, 5, ["w", "x", "z"])], [("w", "pond"), ("x", "top"), ("z", "top")])
        same(self, root_stages(river, ("z", "low")), [
            [("x", "top"), ("z", "top"), ("z", "low")],
            [("w", "pond"), ("w", "top"), ("z", "top"), ("z", "low")]])

    def test_small_rivers(self):
        for river in RIVERS:
            model = Model(river)
            stages = stages_in_order(model)
            found = roots(stages)
            for landing in model.landings:
                same(self, root_stages(river, landing), [stage for name, stage in found if name == landing])
            for stage in stages[:60]:
                expected = [other for other in stages if set(other) <= set(stage) and other in
                            [root for _, root in found]]
                same(self, roots_within(river, stage[::-1]), expected)
                self.assertEqual(set(stage), {landing for root in expected for landing in root})

    def test_roots_within(self):
        same(self, roots_within(example(), [B2, B, A]), [[A], [B], [A, B, B2]])
        same(self, roots_within(river=example(), stage=()), [])
        same(self, roots_within(bare(), []), [])
        same(self, roots_within(example(), END), [[A], [B], [C], [C, C2], [A, B, B2]])

    def test_wrong(self):
        large = product_river(8, 8, 4)
        for landing in (("x", "y"), ("a", "side"), ("", "")):
            raises(self, UnknownLanding, {"landing": landing}, root_stages, example(), landing)
            raises(self, UnknownLanding, {"landing": landing}, root_stages, large, landing)
        raises(self, TooMany, {"limit": 400}, root_stages, large, ("h0", "t0"))
        wrong(self, WRONG_STAGES, roots_within)

    def test_too_many_stages(self):
        # One thing more, which stays in a town of its own with room for it; its second landing is never done.
        towns = product_river(8, 8, 4).town_rows() + []
        towns = [(name, after, room, liking + ["k"]) for name, after, room, liking in towns]
        towns = [(name, after, 1 if name == "t7" else room, ["k"] + liking[:-1]) for name, after, room, liking in towns]
        river = River(towns, product_river(8, 8, 4).thing_rows() + [("k", "t7")])
        self.assertIn(("h0", "t7"), Model(river).end())
        raises(self, TooMany, {"limit": 400}, root_stages, river, ("k", "t7"))
        kept = River([(name, after, 9, liking) if name == "t6" else (name, after, room, liking)
                      for name, after, room, liking in product_river(8, 8, 6, 4, 3).town_rows()],
                     product_river(8, 8, 6, 4, 3).thing_rows())
        self.assertNotIn(("h0", "t7"), Model(kept).end())
        raises(self, TooMany, {"limit": 400}, root_stages, kept, ("h0", "t7"))

    def test_roots_within_counts_the_stages_up_to_the_given_one(self):
        large = product_river(8, 8, 4)
        end = Model(large).end()
        raises(self, TooMany, {"limit": 400}, roots_within, large, end)
        less = [landing for landing in end if landing != ("h2", "t7")]
        same(self, roots_within(large, less), [
            stage for stage in list_stages(large, high=less)
            if len(stage) == len([1 for thing, _ in stage if thing == stage[0][0]]) > 0])
        just = just_enough()
        found = sorted(roots(stages_in_order(Model(just))), key=lambda pair: stage_number(just, pair[1]))
        same(self, roots_within(just, Model(just).end()), [stage for _, stage in found])

    def test_nothing_is_changed(self):
        fresh(self, root_stages, example(), B2)
        fresh(self, roots_within, example(), [C2, C, A])


if __name__ == "__main__":
    unittest.main()
