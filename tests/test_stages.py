"""Stages: stages.py, [20], [21], [28] to [30]."""

import itertools
import unittest

from riverkeeps.rivers import River
from riverkeeps.stages import (
    arrival_table, covering, free_landings, greatest_stage, is_greatest, is_stage, left_out, meet, removable, union)
from tests.helpers import (
    A, A2, B, B2, C, C2, END, WRONG_LISTS, WRONG_STAGES, bare, example, forked, fresh, raises, same, two_seas, wrong)
from tests.model import Model, small_rivers, subsets

SMALL = small_rivers(20, least=3, most=6)
RIVERS = SMALL + [example(), two_seas()]


class IsStage(unittest.TestCase):

    def test_all_lists_of_small_rivers(self):
        for river in RIVERS:
            stages = Model(river).stages()
            for landings in subsets(river.landings()):
                expected = frozenset(landings) in stages
                self.assertIs(is_stage(river, landings), expected)
                self.assertIs(is_stage(river=river, landings=tuple(reversed(landings))), expected)

    def test_wrong_values(self):
        for _, _, landings in WRONG_STAGES:
            self.assertIs(is_stage(example(), landings), False)
        self.assertIs(is_stage(example(), [A, A]), False)
        self.assertIs(is_stage(example(), [("", "")]), False)
        self.assertIs(is_stage(bare(), []), True)
        self.assertIs(is_stage(bare(), [A]), False)


class FreeLandings(unittest.TestCase):

    def test_answers(self):
        same(self, free_landings(example(), []), [A, B, C])
        same(self, free_landings(example(), (C, B)), [A, C2])
        same(self, free_landings(river=example(), stage=[B, A]), [B2, C])
        same(self, free_landings(example(), END), [])
        same(self, free_landings(bare(), []), [])

    def test_all_stages(self):
        for river in RIVERS + [forked()]:
            model = Model(river)
            for done, places in model.stages().items():
                same(self, free_landings(river, sorted(done)), model.free(places))

    def test_wrong(self):
        wrong(self, WRONG_STAGES, free_landings)

    def test_nothing_is_changed(self):
        fresh(self, free_landings, example(), [B, A])


class UnionAndMeet(unittest.TestCase):

    def test_answers(self):
        same(self, union(example(), [C, B], (A, B)), [A, B, C])
        same(self, union(river=example(), one=[], other=()), [])
        same(self, meet(example(), [C, B, A], (A, C, C2)), [A, C])
        same(self, meet(river=example(), one=[], other=[A]), [])

    def test_common_landings_that_are_no_stage(self):
        # Either of x and y pushes z out; the landing of z in low is common to both stages.
        river = River([("top", "low", 1, ["x", "y", "z"]), ("low", None, 5, ["x", "y", "z"])],
                      [("x", "top"), ("y", "top"), ("z", "top")])
        one, other = [("x", "top"), ("z", "top"), ("z", "low")], [("y", "top"), ("z", "top"), ("z", "low")]
        same(self, meet(river, one, other), [("z", "top")])
        same(self, union(river, one, other), [("x", "top"), ("y", "top"), ("z", "top"), ("z", "low")])

    def test_all_pairs_of_stages(self):
        for river in RIVERS[:12] + [example()]:
            model = Model(river)
            stages = list(model.stages())
            for one, other in itertools.product(stages, repeat=2):
                inside = [stage for stage in stages if stage <= one & other]
                same(self, union(river, sorted(one), sorted(other)), model.ordered(one | other))
                same(self, meet(river, sorted(one), sorted(other)), model.ordered(max(inside, key=len)))

    def test_wrong(self):
        for call in (union, meet):
            wrong(self, WRONG_STAGES, call, [A2, A2])
            for error, landing, landings in WRONG_STAGES:
                raises(self, error, {"landing": landing}, call, example(), [A], landings)

    def test_nothing_is_changed(self):
        fresh(self, union, example(), [C, B], [B, A])
        fresh(self, meet, example(), [C, B], [B, A])


class GreatestStage(unittest.TestCase):

    def test_within(self):
        same(self, greatest_stage(example()), END)
        same(self, greatest_stage(example(), within=None), END)
        same(self, greatest_stage(example(), within=[]), [])
        same(self, greatest_stage(example(), within=()), [])
        same(self, greatest_stage(example(), within=(B2, B, A2, C2)), [B])
        same(self, greatest_stage(river=example(), within=[B2, B, A], without=[]), [A, B, B2])
        same(self, greatest_stage(bare()), [])

    def test_without(self):
        same(self, greatest_stage(example(), without=[A]), [B, C, C2])
        same(self, greatest_stage(example(), without=(C, B)), [A])
        same(self, greatest_stage(example(), without=[A2]), END)
        same(self, greatest_stage(example(), within=[C2, C, A], without=[A, B]), [C, C2])
        same(self, greatest_stage(example(), within=[A], without=[A]), [])
        same(self, greatest_stage(example(), without=example().landings()), [])

    def test_all_lists(self):
        for river in SMALL[:6] + [example()]:
            model = Model(river)
            stages = model.stages()
            for within in subsets(model.landings):
                for without in [[], model.landings[:2], model.landings[1::2]]:
                    allowed = set(within) - set(without)
                    expected = max([stage for stage in stages if stage <= allowed], key=len)
                    same(self, greatest_stage(river, within=within, without=without), model.ordered(expected))

    def test_wrong(self):
        for error, landing, landings in WRONG_LISTS:
            raises(self, error, {"landing": landing}, greatest_stage, example(), within=landings)
            raises(self, error, {"landing": landing}, greatest_stage, example(), without=landings)
            raises(self, error, {"landing": landing}, greatest_stage, example(), within=[], without=landings)
            raises(self, error, {"landing": landing}, greatest_stage, example(), without=[B, B], within=landings)

    def test_nothing_is_changed(self):
        fresh(self, greatest_stage, example(), within=[C2, C, A], without=[A])
        fresh(self, greatest_stage, example())


class LeftOutAndIsGreatest(unittest.TestCase):

    def test_left_out(self):
        same(self, left_out(example(), example().landings()), [A2])
        same(self, left_out(example(), (C2, B2, B)), [B2, C2])
        same(self, left_out(river=example(), within=[]), [])

    def test_all_lists(self):
        for river in SMALL[:8] + [example()]:
            model = Model(river)
            stages = list(model.stages())
            for within in subsets(model.landings):
                greatest = max([stage for stage in stages if stage.issubset(within)], key=len)
                same(self, left_out(river, within[::-1]), [one for one in within if one not in greatest])
                for stage in stages:
                    self.assertIs(is_greatest(river, within, sorted(stage)), stage == greatest)

    def test_is_greatest(self):
        self.assertIs(is_greatest(example(), [B2, B, A2], [B]), True)
        self.assertIs(is_greatest(river=example(), within=(B2, A, B), stage=(B2, B, A)), True)
        self.assertIs(is_greatest(example(), [], []), True)
        self.assertIs(is_greatest(example(), [], ()), True)
        self.assertIs(is_greatest(example(), [A], []), False)
        # A greater stage that is not within the list, a smaller one, and one beside it.
        self.assertIs(is_greatest(example(), [A, B], [A, B, C]), False)
        self.assertIs(is_greatest(example(), [A, B], [A]), False)
        self.assertIs(is_greatest(example(), [A, B], [A, C]), False)

    def test_wrong_judged_values(self):
        for _, _, landings in WRONG_STAGES:
            self.assertIs(is_greatest(example(), example().landings(), landings), False)
        self.assertIs(is_greatest(example(), [A, B], [A, B, A]), False)
        self.assertIs(is_greatest(example(), [A, B], [A, A]), False)
        self.assertIs(is_greatest(example(), [A], [("x", "y")]), False)
        self.assertIs(is_greatest(example(), [A, A2], [A, A2]), False)
        self.assertIs(is_greatest(example(), [A2], [A2]), False)

    def test_wrong_lists(self):
        wrong(self, WRONG_LISTS, left_out)
        wrong(self, WRONG_LISTS, is_greatest, [("x", "y")])
        wrong(self, WRONG_LISTS, is_greatest, [A])

    def test_nothing_is_changed(self):
        fresh(self, left_out, example(), [C2, B2, B])
        fresh(self, is_greatest, example(), [C2, B2, B], [B])


class ArrivalTable(unittest.TestCase):

    def test_the_worked_example(self):
        same(self, arrival_table(example(), [("b", "hill")]), [
            (("a", "hill"), "free", 0, []), (("a", "mid"), "before", 0, []), (("b", "mid"), "lacks", 1, ["a"]),
            (("c", "side"), "free", 0, []), (("c", "mid"), "before", 0, [])])

    def test_other_stages(self):
        same(self, arrival_table(example(), []), [
            (A, "free", 0, []), (A2, "before", 0, []), (B, "free", 0, []), (B2, "before", 0, []), (C, "free", 0, []),
            (C2, "before", 0, [])])
        same(self, arrival_table(example(), (C, B, A)), [
            (A2, "lacks", 1, []), (B2, "free", 0, []), (C2, "free", 0, [])])
        same(self, arrival_table(river=example(), stage=END), [(A2, "lacks", 1, [])])
        same(self, arrival_table(bare(), []), [])

    def test_lack_and_better(self):
        # The best of top is p, whose spring is elsewhere; it is named all the same.
        towns = [("top", "low", 2, ["p", "t", "s", "r", "q"]), ("low", None, 1, list("pqrst")),
                 ("pond", None, 0, list("pqrst"))]
        river = River(towns, [("p", "pond")] + [(thing, "top") for thing in "qrst"])
        same(self, arrival_table(river, [("q", "top")])[1], (("q", "low"), "lacks", 2, ["p", "t", "s", "r"]))
        same(self, arrival_table(river, [("q", "top"), ("s", "top")])[1], (("q", "low"), "lacks", 1, ["p", "t", "r"]))
        table = arrival_table(river, [("q", "top"), ("t", "top"), ("s", "top"), ("p", "pond")])
        same(self, table, [
            (("q", "low"), "free", 0, []), (("r", "top"), "free", 0, []), (("r", "low"), "before", 0, []),
            (("s", "low"), "lacks", 1, ["p"]), (("t", "low"), "lacks", 2, ["p"])])
        deep = River([("top", "low", 99, ["x", "y"]), ("low", None, 1, ["x", "y"])], [("x", "top"), ("y", "top")])
        same(self, arrival_table(deep, [("x", "top"), ("y", "top")]), [
            (("x", "low"), "lacks", 99, []), (("y", "low"), "lacks", 98, [])])

    def test_all_stages(self):
        for river in RIVERS + [forked()]:
            model = Model(river)
            for done, places in model.stages().items():
                expected = []
                for thing, town in model.landings:
                    path = model.paths[thing]
                    before = path[path.index(town) - 1] if town != path[0] else None
                    if (thing, town) in done:
                        continue
                    if places[thing] == ("afloat", town):
                        row = ("free", 0, [])
                    elif places[thing] != ("kept", before):
                        row = ("before", 0, [])
                    else:
                        better = model.liking[before][:model.liking[before].index(thing)]
                        missing = [other for other in better if (other, before) not in done]
                        row = ("lacks", model.room[before] - len(better) + len(missing), missing)
                    expected.append(((thing, town), *row))
                same(self, arrival_table(river, sorted(done)), expected)

    def test_wrong(self):
        wrong(self, WRONG_STAGES, arrival_table)

    def test_nothing_is_changed(self):
        fresh(self, arrival_table, example(), [("b", "hill")])
        fresh(self, arrival_table, example(), [])


class RemovableAndCovering(unittest.TestCase):

    def test_removable(self):
        same(self, removable(example(), [C, B, A]), [A, B, C])
        same(self, removable(example(), (C2, C, B2, B, A)), [B2, C2])
        same(self, removable(river=example(), stage=[]), [])

    def test_covering(self):
        same(self, covering(example(), [C, B]), [[A, B, C], [B, C, C2]])
        same(self, covering(river=example(), stage=()), [[A], [B], [C]])
        same(self, covering(example(), END), [])
        same(self, covering(bare(), []), [])

    def test_all_stages(self):
        for river in RIVERS + [forked()]:
            model = Model(river)
            stages = model.stages()
            for done in stages:
                same(self, removable(river, sorted(done)),
                     [landing for landing in model.ordered(done) if done - {landing} in stages])
                same(self, covering(river, sorted(done)),
                     [model.ordered(done | {landing}) for landing in model.landings
                      if landing not in done and done | {landing} in stages])

    def test_wrong(self):
        for call in (removable, covering):
            wrong(self, WRONG_STAGES, call)

    def test_nothing_is_changed(self):
        fresh(self, removable, example(), [C, B, A])
        fresh(self, covering, example(), [C, B])


if __name__ == "__main__":
    unittest.main()
