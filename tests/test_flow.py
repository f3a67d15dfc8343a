"""Open landings and greatest stages: flow.py, [15], [20], [21]."""

import itertools
import random
import unittest

from riverkeeps.errors import DuplicateLanding, UnknownLanding
from riverkeeps.flow import greatest_within, in_order, is_open, landing_before
from riverkeeps.rivers import River
from tests.helpers import bare, example, forked, fresh, raises, same, two_seas
from tests.model import Model, small_rivers, subsets

SMALL = small_rivers(25, least=3, most=7)

# A town of a better thing that never lands there: z is liked best in low but floats elsewhere.
ASIDE = River(
    [("low", "end", 1, ["z", "y", "x"]), ("end", None, 9, ["x", "y", "z"]), ("pond", None, 1, ["x", "y", "z"])],
    [("x", "low"), ("y", "low"), ("z", "pond")])

WRONG_LISTS = [
    (UnknownLanding, ("a", "side"), [("a", "side")]),
    (UnknownLanding, ("x", "hill"), [("a", "hill"), ("x", "hill"), ("a", "hill")]),
    (UnknownLanding, ("a", "x"), (("a", "x"), ("a", "x"))),
    (DuplicateLanding, ("a", "hill"), [("a", "hill"), ("b", "hill"), ("a", "hill"), ("x", "hill")]),
    (DuplicateLanding, ("a", "mid"), (("a", "mid"), ("a", "mid"))),
]


class LandingBefore(unittest.TestCase):

    def test_answers(self):
        same(self, landing_before(example(), ("a", "hill")), None)
        same(self, landing_before(example(), ("a", "mid")), ("a", "hill"))
        same(self, landing_before(example(), ("c", "mid")), ("c", "side"))
        same(self, landing_before(river=forked(), landing=("d", "tail")), ("d", "fork"))

    def test_all_landings(self):
        for river in SMALL + [forked(), two_seas()]:
            for thing in river.things:
                before = None
                for town in river.path(thing):
                    same(self, landing_before(river, (thing, town)), before)
                    before = (thing, town)

    def test_unknown(self):
        for landing in [("a", "side"), ("x", "hill"), ("hill", "a"), ("a", "")]:
            raises(self, UnknownLanding, {"landing": landing}, landing_before, example(), landing)


class IsOpen(unittest.TestCase):

    def test_the_spring_is_always_open(self):
        for landings in ([], [("a", "hill")], [("c", "mid")]):
            self.assertIs(is_open(example(), landings, ("a", "hill")), True)

    def test_the_landing_itself_makes_no_difference(self):
        self.assertIs(is_open(example(), [("c", "side")], ("c", "mid")), True)
        self.assertIs(is_open(example(), [("c", "side"), ("c", "mid")], ("c", "mid")), True)
        self.assertIs(is_open(example(), [("c", "mid")], ("c", "mid")), False)
        self.assertIs(is_open(example(), [], ("c", "mid")), False)

    def test_room_and_liking(self):
        self.assertIs(is_open(example(), [("b", "hill")], ("b", "mid")), False)
        self.assertIs(is_open(example(), [("a", "hill"), ("b", "hill")], ("b", "mid")), True)
        self.assertIs(is_open(example(), [("a", "hill"), ("b", "hill")], ("a", "mid")), False)
        self.assertIs(is_open(river=example(), landings=(("a", "hill"),), landing=("b", "mid")), False)

    def test_a_list_that_is_no_stage(self):
        # That b lands in mid cannot be done yet; it counts all the same. Only landings in the same town count.
        river = forked()
        self.assertIs(is_open(river, [("a", "fork"), ("b", "fork")], ("a", "tail")), True)
        self.assertIs(is_open(river, [("a", "fork"), ("b", "tail")], ("a", "tail")), False)
        self.assertIs(is_open(river, [("a", "fork"), ("c", "fork")], ("a", "tail")), False)
        self.assertIs(is_open(river, [("d", "fork"), ("b", "fork")], ("b", "tail")), False)

    def test_all_lists_of_small_rivers(self):
        for river in SMALL + [example(), two_seas(), ASIDE]:
            model = Model(river)
            for landings in subsets(model.landings):
                for landing in model.landings:
                    self.assertIs(is_open(river, landings, landing), model.open(landings, landing))

    def test_wrong(self):
        for error, landing, landings in WRONG_LISTS:
            raises(self, error, {"landing": landing}, is_open, example(), landings, ("a", "hill"))
            raises(self, error, {"landing": landing}, is_open, example(), landings, ("y", "y"))
        raises(self, UnknownLanding, {"landing": ("y", "y")}, is_open, example(), [("a", "hill")], ("y", "y"))
        raises(self, UnknownLanding, {"landing": ("b", "side")}, is_open, example(), [], ("b", "side"))

    def test_nothing_is_changed(self):
        fresh(self, is_open, example(), [("b", "hill"), ("a", "hill")], ("b", "mid"))


class GreatestWithin(unittest.TestCase):

    def test_answers(self):
        river = example()
        same(self, greatest_within(river, []), [])
        same(self, greatest_within(river, [("c", "mid"), ("c", "side")]), [("c", "side"), ("c", "mid")])
        same(self, greatest_within(river, [("b", "mid"), ("b", "hill")]), [("b", "hill")])
        same(self, greatest_within(river, (("b", "mid"), ("b", "hill"), ("a", "hill"))),
             [("a", "hill"), ("b", "hill"), ("b", "mid")])
        same(self, greatest_within(river=river, landings=river.landings()),
             [("a", "hill"), ("b", "hill"), ("b", "mid"), ("c", "side"), ("c", "mid")])
        same(self, greatest_within(bare(), []), [])
        same(self, greatest_within(ASIDE, ASIDE.landings()), [("x", "low"), ("x", "end"), ("y", "low"), ("z", "pond")])

    def test_within_all_lists_of_small_rivers(self):
        for river in SMALL + [example(), two_seas(), ASIDE]:
            model = Model(river)
            stages = model.stages()
            for landings in subsets(model.landings):
                inside = [stage for stage in stages if stage.issubset(landings)]
                greatest = max(inside, key=len)
                self.assertTrue(all(stage <= greatest for stage in inside))
                same(self, greatest_within(river, landings), model.ordered(greatest))

    def test_the_same_for_every_order_of_the_list(self):
        chance = random.Random(21)
        for river in SMALL + [example()]:
            expected = greatest_within(river, river.landings())
            for _ in range(10):
                landings = chance.sample(river.landings(), len(river.landings()))
                same(self, greatest_within(river, landings), expected)
                same(self, greatest_within(river, tuple(landings)), expected)
        for landings in itertools.permutations([("c", "mid"), ("c", "side"), ("b", "hill"), ("a", "hill")]):
            same(self, greatest_within(example(), landings),
                 [("a", "hill"), ("b", "hill"), ("c", "side"), ("c", "mid")])

    def test_wrong(self):
        for error, landing, landings in WRONG_LISTS:
            raises(self, error, {"landing": landing}, greatest_within, example(), landings)

    def test_nothing_is_changed(self):
        fresh(self, greatest_within, example(), [("c", "mid"), ("c", "side")])


class InOrder(unittest.TestCase):

    def test_answers(self):
        landings = forked().landings()
        same(self, in_order(forked(), list(reversed(landings))), landings)
        same(self, in_order(forked(), (("d", "tail"), ("a", "fork"), ("a", "top"))),
             [("a", "top"), ("a", "fork"), ("d", "tail")])
        same(self, in_order(river=bare(), landings=[]), [])

    def test_wrong(self):
        for error, landing, landings in WRONG_LISTS:
            raises(self, error, {"landing": landing}, in_order, example(), landings)

    def test_nothing_is_changed(self):
        fresh(self, in_order, example(), [("c", "mid"), ("a", "mid")])


if __name__ == "__main__":
    unittest.main()
