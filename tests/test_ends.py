"""The end of a river: ends.py, [22], [36], [37]."""

import itertools
import unittest

from riverkeeps.ends import (
    deeds_left, end_places, end_stage, end_world, is_end_places, leaving, reckon, room_left)
from riverkeeps.errors import UnknownTown
from riverkeeps.rivers import River
from riverkeeps.worlds import World
from tests.helpers import A, B, B2, C, C2, END, bare, example, forked, fresh, raises, same, two_seas
from tests.model import Model, random_river, small_rivers

RIVERS = small_rivers(20, least=3, most=6) + [example(), two_seas(), bare(), forked()]
LARGE = [random_river(seed, 8, 10) for seed in range(60)]
PLACES = [("a", "kept", "hill"), ("b", "sea", None), ("c", "kept", "mid")]


def finished(model):
    """The places at the end of a history that does the last free landing at each step."""
    places = model.start()
    while model.free(places):
        places, _ = model.land(places, model.free(places)[-1][0])
    return places


def upstream_order(model):
    """The towns in upstream order, by the words of [36]."""
    order = []
    while len(order) < len(model.towns):
        order.append(min(town for town in model.towns if town not in order and all(
            feeder in order for feeder in model.towns if model.after[feeder] == town)))
    return order


class End(unittest.TestCase):

    def test_answers(self):
        same(self, end_stage(example()), END)
        same(self, end_stage(river=bare()), [])
        same(self, end_places(example()), PLACES)
        same(self, end_places(river=bare()), [])
        self.assertEqual(end_world(example()), World(example(), stage=END))
        self.assertIsInstance(end_world(river=bare()), World)
        self.assertIs(end_world(two_seas()).ended, True)

    def test_every_history_comes_to_the_end_that_is_told(self):
        for river in RIVERS:
            model = Model(river)
            rows = reckon(river)
            many = 0
            for history, places in model.histories():
                if model.free(places):
                    continue
                many += 1
                same(self, end_stage(river), model.ordered(history))
                same(self, end_places(river), model.rows(places))
                for town, landed, kept, floated in rows:
                    self.assertEqual(set(landed), {thing for thing, name in history if name == town})
                    self.assertEqual(set(kept), {thing for thing in model.things if places[thing] == ("kept", town)})
                    self.assertEqual(set(floated), set(landed) - set(kept))
            self.assertGreater(many, 0)

    def test_large_rivers(self):
        for river in LARGE:
            model = Model(river)
            same(self, end_stage(river), model.end())
            same(self, end_places(river), model.rows(finished(model)))
            same(self, end_world(river).places(), end_places(river))

    def test_nothing_is_changed(self):
        fresh(self, end_stage, example())
        fresh(self, end_places, example())
        fresh(self, reckon, example())
        fresh(self, leaving, example(), "hill")


class Reckon(unittest.TestCase):

    def test_the_worked_example(self):
        same(self, reckon(example()), [
            ("hill", ["a", "b"], ["a"], ["b"]), ("side", ["c"], [], ["c"]), ("mid", ["c", "b"], ["c"], ["b"])])

    def test_other_rivers(self):
        same(self, reckon(bare()), [("t", [], [], [])])
        same(self, reckon(river=two_seas()), [
            ("x2", ["q"], [], ["q"]), ("x1", ["q", "p"], ["q", "p"], []), ("y", ["r"], ["r"], [])])
        # The order of the names is not the upstream order, and the best is not the least name.
        river = River([("c", "b", 1, ["z", "y", "x"]), ("b", "a", 1, ["y", "z", "x"]), ("a", None, 1, ["x", "y", "z"])],
                      [("x", "c"), ("y", "c"), ("z", "c")])
        same(self, reckon(river), [
            ("c", ["z", "y", "x"], ["z"], ["y", "x"]), ("b", ["y", "x"], ["y"], ["x"]), ("a", ["x"], ["x"], [])])

    def test_upstream_order_and_best_first(self):
        for river in RIVERS + LARGE:
            model = Model(river)
            places = finished(model)
            rows = reckon(river)
            same(self, [row[0] for row in rows], upstream_order(model))
            for town, landed, kept, floated in rows:
                same(self, landed, [thing for thing in model.liking[town] if (thing, town) in model.end()])
                same(self, kept, [thing for thing in landed if places[thing] == ("kept", town)])
                same(self, floated, [thing for thing in landed if places[thing] != ("kept", town)])
                same(self, leaving(river, town), floated)
                same(self, room_left(river, town), model.room[town] - len(kept))


class IsEndPlaces(unittest.TestCase):

    def test_any_order(self):
        for places in itertools.permutations(PLACES):
            self.assertIs(is_end_places(example(), list(places)), True)
            self.assertIs(is_end_places(river=example(), places=places), True)
        self.assertIs(is_end_places(bare(), []), True)
        self.assertIs(is_end_places(bare(), ()), True)

    def test_a_row_left_out_doubled_or_unknown(self):
        for at in range(3):
            self.assertIs(is_end_places(example(), PLACES[:at] + PLACES[at + 1:]), False)
            self.assertIs(is_end_places(example(), PLACES + [PLACES[at]]), False)
            self.assertIs(is_end_places(example(), PLACES[:2] + [PLACES[at]]), at == 2)
        for row in [("x", "sea", None), ("x", "kept", "mid"), ("hill", "kept", "hill"), ("", "sea", None)]:
            self.assertIs(is_end_places(example(), PLACES + [row]), False)
            self.assertIs(is_end_places(example(), PLACES[:2] + [row]), False)
            self.assertIs(is_end_places(bare(), [row]), False)
        self.assertIs(is_end_places(example(), []), False)
        # One thing twice, with two different places, of which one is right.
        self.assertIs(is_end_places(example(), PLACES + [("b", "kept", "mid")]), False)
        self.assertIs(is_end_places(example(), [("b", "kept", "mid")] + PLACES), False)

    def test_wrong_rows(self):
        for wrong in [("c", "afloat", "mid"), ("c", "afloat", "side"), ("c", "kept", None), ("c", "kept", "hill"),
                      ("c", "kept", "side"), ("c", "kept", "x"), ("c", "kept", "sea"), ("c", "sea", None),
                      ("c", "sea", "mid"), ("c", "", None), ("c", "landed", "mid"), ("c", "Kept", "mid"),
                      ("c", "afloat", None)]:
            self.assertIs(is_end_places(example(), PLACES[:2] + [wrong]), False, wrong)
        for wrong in [("b", "sea", "mid"), ("b", "sea", "sea"), ("b", "kept", "mid"), ("b", "kept", None),
                      ("b", "afloat", None), ("b", "afloat", "hill")]:
            self.assertIs(is_end_places(example(), [PLACES[0], wrong, PLACES[2]]), False, wrong)

    def test_all_places_of_small_rivers(self):
        for river in RIVERS:
            model = Model(river)
            right = model.rows(finished(model))
            choices = []
            for thing in model.things:
                rows = [(thing, kind, town) for kind in ("kept", "afloat") for town in model.paths[thing]]
                choices.append(rows + [(thing, "sea", None)])
            for places in itertools.islice(itertools.product(*choices), 400):
                self.assertIs(is_end_places(river, list(places)), list(places) == right)
            self.assertIs(is_end_places(river, right), True)

    def test_nothing_is_changed(self):
        fresh(self, is_end_places, example(), PLACES[::-1])


class Towns(unittest.TestCase):

    def test_answers(self):
        same(self, leaving(example(), "hill"), ["b"])
        same(self, leaving(river=example(), town="side"), ["c"])
        same(self, leaving(example(), "mid"), ["b"])
        same(self, leaving(bare(), "t"), [])
        same(self, [room_left(two_seas(), town) for town in ("x1", "x2", "y")], [0, 0, 98])
        same(self, room_left(river=bare(), town="t"), 3)
        # The liking of this very town gives the order.
        river = River([("t", "u", 0, ["b", "c", "a"]), ("u", None, 0, ["c", "b", "a"])],
                      [("a", "t"), ("b", "t"), ("c", "t")])
        same(self, leaving(river, "t"), ["b", "c", "a"])
        same(self, leaving(river, "u"), ["c", "b", "a"])

    def test_unknown_towns(self):
        for call in (leaving, room_left):
            for town in ("x", "a", "sea", ""):
                raises(self, UnknownTown, {"town": town}, call, example(), town)


class DeedsLeft(unittest.TestCase):

    def test_answers(self):
        same(self, deeds_left(World(example())), 5)
        same(self, deeds_left(world=World(example(), stage=[C, B])), 3)
        same(self, deeds_left(World(example(), stage=[C2, C, A, B2, B])), 0)
        same(self, deeds_left(World(bare())), 0)

    def test_all_histories(self):
        for river in RIVERS[:10]:
            model = Model(river)
            for one in model.stages():
                world = World(river, stage=sorted(one))
                for history in model.onward(one)[frozenset(model.end())]:
                    same(self, deeds_left(world), len(history))


if __name__ == "__main__":
    unittest.main()
