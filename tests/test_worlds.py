"""Worlds [18], [19], [22], [23] and the world text [24]."""

import itertools
import unittest
from unittest import mock

from riverkeeps.errors import (
    BadPlace, BadText, DuplicateLanding, DuplicateName, NotStage, OtherRiver, UnknownLanding, UnknownThing,
    UnknownTown)
from riverkeeps.rivers import River
from riverkeeps.worlds import World, read_world, stage_of_places, write_world
from tests.helpers import HILL, MID, SIDE, bare, example, forked, fresh, raises, same, two_seas
from tests.model import Model, small_rivers, subsets

SMALL = small_rivers(25, least=3, most=7)
END = [("a", "hill"), ("b", "hill"), ("b", "mid"), ("c", "side"), ("c", "mid")]


class Making(unittest.TestCase):

    def test_the_start(self):
        world = World(example())
        same(self, world.stage, [])
        same(self, world.places(), [("a", "afloat", "hill"), ("b", "afloat", "hill"), ("c", "afloat", "side")])
        self.assertTrue(world == World(example(), stage=[]))
        self.assertTrue(world == World(river=example(), stage=()))
        self.assertTrue(world.river == example())

    def test_a_stage_in_any_order(self):
        for stage in itertools.permutations(END):
            world = World(example(), stage=list(stage))
            same(self, world.stage, END)
            self.assertTrue(world == World(example(), stage=tuple(stage)))

    def test_wrong_stages(self):
        def wrong(error, landing, *stage):
            raises(self, error, {"landing": landing}, World, example(), stage=list(stage))
            raises(self, error, {"landing": landing}, World, example(), stage=stage)
        wrong(UnknownLanding, ("a", "side"), ("a", "side"))
        wrong(UnknownLanding, ("x", "y"), ("a", "mid"), ("x", "y"))
        wrong(DuplicateLanding, ("a", "hill"), ("a", "hill"), ("a", "hill"))
        wrong(DuplicateLanding, ("a", "mid"), ("a", "mid"), ("a", "mid"), ("x", "y"))
        wrong(NotStage, ("a", "mid"), ("a", "mid"))
        # The first one in landing order outside of the greatest stage within the list, not the first one of the list.
        wrong(NotStage, ("a", "mid"), ("c", "mid"), ("b", "mid"), ("a", "mid"))
        wrong(NotStage, ("b", "mid"), ("c", "mid"), ("b", "mid"), ("a", "hill"), ("c", "side"))
        wrong(NotStage, ("c", "mid"), ("c", "mid"), ("b", "mid"), ("b", "hill"), ("a", "hill"))
        # A landing may be outside of the greatest stage although it is open under the list.
        raises(self, NotStage, {"landing": ("a", "fork")}, World, forked(),
               stage=[("a", "tail"), ("b", "fork"), ("a", "fork"), ("a", "top")])

    def test_not_stage_for_all_lists_of_small_rivers(self):
        for river in SMALL:
            model = Model(river)
            stages = model.stages()
            for landings in subsets(model.landings):
                greatest = max([stage for stage in stages if stage.issubset(landings)], key=len)
                outside = [landing for landing in landings if landing not in greatest]
                if outside:
                    raises(self, NotStage, {"landing": outside[0]}, World, river, stage=landings[::-1])
                else:
                    same(self, World(river, stage=landings[::-1]).stage, landings)

    def test_later_changes_of_the_argument_have_no_effect(self):
        stage = [("b", "hill"), ("a", "hill")]
        world = World(example(), stage=stage)
        same(self, stage, [("b", "hill"), ("a", "hill")])
        stage.clear()
        same(self, world.stage, [("a", "hill"), ("b", "hill")])


class Questions(unittest.TestCase):

    def test_the_end_of_the_example(self):
        world = World(example(), stage=END)
        same(self, world.ended, True)
        same(self, world.places(), [("a", "kept", "hill"), ("b", "sea", None), ("c", "kept", "mid")])
        same(self, [world.place(thing) for thing in "abc"], [("kept", "hill"), ("sea", None), ("kept", "mid")])
        same(self, [world.kept(town) for town in ("hill", "mid", "side")], [["a"], ["c"], []])
        same(self, [world.landed(town) for town in ("hill", "mid", "side")], [["a", "b"], ["c", "b"], ["c"]])
        same(self, [world.ahead(town) for town in ("hill", "mid", "side")], [[], [], []])
        same(self, world.at_sea(), ["b"])
        same(self, world.free(), [])
        same(self, len(world), 5)

    def test_the_start_of_the_example(self):
        world = World(example())
        same(self, world.ended, False)
        same(self, [world.ahead(town) for town in ("hill", "mid", "side")], [["a", "b"], [], ["c"]])
        same(self, [world.kept(town) for town in ("hill", "mid", "side")], [[], [], []])
        same(self, [world.landed(town) for town in ("hill", "mid", "side")], [[], [], []])
        same(self, world.at_sea(), [])
        same(self, world.free(), [("a", "hill"), ("b", "hill"), ("c", "side")])
        same(self, len(world), 0)

    def test_a_river_without_things(self):
        world = World(bare())
        same(self, world.ended, True)
        same(self, [world.stage, world.places(), world.free(), world.at_sea()], [[], [], [], []])
        same(self, [world.kept("t"), world.landed("t"), world.ahead("t")], [[], [], []])

    def test_by_names(self):
        world = World(example(), stage=[("b", "hill")])
        same(self, world.place(thing="b"), ("kept", "hill"))
        same(self, world.kept(town="hill"), ["b"])
        same(self, world.landed(town="hill"), ["b"])
        same(self, world.ahead(town="hill"), ["a"])

    def test_all_worlds_of_small_rivers(self):
        for river in SMALL + [example(), forked(), two_seas(), bare()]:
            model = Model(river)
            for done, places in model.stages().items():
                world = World(river, stage=sorted(done))
                same(self, world.stage, model.ordered(done))
                same(self, list(world), model.ordered(done))
                same(self, len(world), len(done))
                same(self, world.places(), model.rows(places))
                same(self, world.free(), model.free(places))
                same(self, world.ended, model.free(places) == [])
                same(self, world.at_sea(), [thing for thing in model.things if places[thing] == ("sea", None)])
                for thing in model.things:
                    same(self, world.place(thing), places[thing])
                for town in model.towns:
                    liking = model.liking[town]
                    same(self, world.kept(town), [thing for thing in liking if places[thing] == ("kept", town)])
                    same(self, world.landed(town), [thing for thing in liking if (thing, town) in done])
                    same(self, world.ahead(town),
                         [thing for thing in model.things if places[thing] == ("afloat", town)])

    def test_unknown_names(self):
        for world in (World(example()), World(example(), stage=END)):
            for call in (world.kept, world.landed, world.ahead):
                for town in ["x", "a", "sea", ""]:
                    raises(self, UnknownTown, {"town": town}, call, town)
            for thing in ["x", "hill", ""]:
                raises(self, UnknownThing, {"thing": thing}, world.place, thing)
        raises(self, UnknownTown, {"town": "x"}, World(bare()).ahead, "x")
        raises(self, UnknownTown, {"town": "x"}, World(bare()).kept, "x")

    def test_changed_answers_change_nothing(self):
        world = World(example(), stage=END[:3])
        calls = [lambda: world.stage, lambda: list(world), world.places, world.free, world.at_sea]
        calls += [lambda town=town, call=call: call(town) for town in ("hill", "mid", "side")
                  for call in (world.kept, world.landed, world.ahead)]
        for call in calls:
            fresh(self, call)
        self.assertTrue(world == World(example(), stage=END[:3]))


class Containment(unittest.TestCase):

    def test_landings(self):
        world = World(example(), stage=[("a", "hill"), ("b", "hill")])
        for landing in example().landings():
            self.assertIs(landing in world, landing in [("a", "hill"), ("b", "hill")])

    def test_any_other_tuples(self):
        world = World(example(), stage=END)
        for value in [(), ("a",), ("a", "hill", "mid"), ("a", "side"), ("x", "y"), (1, 2), (None, None), ("hill", "a"),
                      ("a", ["hill"]), (["a"], {}), ({1}, object()), (("a", "hill"),), (("a", "hill"), ("b", "hill")),
                      ("a", True), (world, world.river), (mock.ANY, "hill"), (mock.ANY, mock.ANY)]:
            self.assertIs(value in world, False)


class Union(unittest.TestCase):

    def test_all_pairs_of_stages(self):
        for river in SMALL[:8] + [example()]:
            model = Model(river)
            stages = list(model.stages())
            for one, other in itertools.product(stages, repeat=2):
                left, right = World(river, stage=sorted(one)), World(river, stage=sorted(other))
                both = left | right
                same(self, both.stage, model.ordered(one | other))
                same(self, left.stage, model.ordered(one))
                same(self, right.stage, model.ordered(other))
                self.assertTrue(both.river == river)

    def test_an_equal_river_is_no_other_river(self):
        both = World(example(), stage=[("a", "hill")]) | World(example(), stage=[("c", "side")])
        self.assertTrue(both == World(example(), stage=[("c", "side"), ("a", "hill")]))

    def test_another_river(self):
        other = River([("hill", "mid", 2, ["a", "b", "c"]), MID, SIDE], [("a", "hill"), ("b", "hill"), ("c", "side")])
        for one, two in [(example(), other), (other, example()), (example(), bare()), (bare(), forked())]:
            raises(self, OtherRiver, {}, lambda one=one, two=two: World(one) | World(two))


class Equality(unittest.TestCase):

    def test_equal(self):
        self.assertIs(World(example()) == World(example()), True)
        self.assertIs(World(example(), stage=END) == World(example(), stage=END[::-1]), True)

    def test_not_equal(self):
        world = World(example(), stage=END[:2])
        self.assertIs(world == World(example(), stage=END[:1]), False)
        self.assertIs(world == World(example()), False)
        self.assertIs(World(example()) == World(bare()), False)
        other = River([HILL, ("mid", None, 2, ["c", "a", "b"]), SIDE], [("a", "hill"), ("b", "hill"), ("c", "side")])
        self.assertIs(World(other, stage=END[:2]) == world, False)

    def test_values_that_are_no_worlds(self):
        for value in [None, 0, [], END[:2], example(), "world", object(), mock.ANY]:
            self.assertIs(World(example(), stage=END[:2]) == value, False)
            self.assertIs(World(bare()) == value, False)


START = [("a", "afloat", "hill"), ("b", "afloat", "hill"), ("c", "afloat", "side")]


class StageOfPlaces(unittest.TestCase):

    def test_answers(self):
        same(self, stage_of_places(example(), START), [])
        same(self, stage_of_places(example(), [("c", "kept", "mid"), ("b", "sea", None), ("a", "kept", "hill")]), END)
        same(self, stage_of_places(river=bare(), places=()), [])

    def test_all_places_of_small_rivers(self):
        for river in SMALL[:15] + [example()]:
            model = Model(river)
            stages = model.stages()
            known = {tuple(model.rows(places)): done for done, places in stages.items()}
            kinds = [[("sea", None)] + [(kind, town) for kind in ("afloat", "kept") for town in model.paths[thing]]
                     for thing in model.things]
            for chosen in itertools.product(*kinds):
                rows = [(thing, *place) for thing, place in zip(model.things, chosen)]
                told = []
                for thing, kind, town in rows:
                    path = model.paths[thing]
                    many = {"sea": len(path), "afloat": 0, "kept": 1}[kind] + (path.index(town) if town else 0)
                    told += [(thing, name) for name in path[:many]]
                greatest = max([stage for stage in stages if stage.issubset(told)], key=len)
                outside = [landing for landing in told if landing not in greatest]
                if tuple(rows) in known:
                    same(self, stage_of_places(river, rows[::-1]), model.ordered(known[tuple(rows)]))
                    same(self, stage_of_places(river, tuple(rows)), model.ordered(known[tuple(rows)]))
                elif outside:
                    raises(self, NotStage, {"landing": outside[0]}, stage_of_places, river, rows[::-1])
                else:
                    thing = [row[0] for row in rows if row not in model.rows(stages[frozenset(told)])][0]
                    raises(self, BadPlace, {"thing": thing}, stage_of_places, river, rows[::-1])

    def test_wrong_rows(self):
        def wrong(error, attributes, *places):
            raises(self, error, attributes, stage_of_places, example(), list(places))
            raises(self, error, attributes, stage_of_places, example(), places)
        a, b, c = START
        wrong(UnknownThing, {"thing": "x"}, a, b, c, ("x", "sea", None))
        wrong(UnknownThing, {"thing": "hill"}, ("hill", "nowhere", "x"))
        wrong(DuplicateName, {"name": "a"}, a, b, a, c)
        wrong(DuplicateName, {"name": "a"}, a, ("a", "nowhere", "x"))
        for kind, town in [("lost", "hill"), ("landed", "hill"), ("Sea", None), ("", None), ("afloat", None),
                           ("kept", None), ("afloat", "side"), ("kept", "side"), ("kept", "x"), ("afloat", "x"),
                           ("sea", "hill"), ("sea", "mid"), ("sea", "x"), ("sea", "sea"), ("sea", "")]:
            wrong(BadPlace, {"thing": "a"}, c, ("a", kind, town), b)
            wrong(BadPlace, {"thing": "a"}, ("a", kind, town), ("x", "sea", None))
        # Each row completely before the next one.
        wrong(BadPlace, {"thing": "c"}, ("c", "kept", "hill"), ("x", "sea", None))
        wrong(BadPlace, {"thing": "c"}, ("c", "kept", "hill"), c)
        wrong(UnknownThing, {"thing": "x"}, ("x", "kept", "hill"), ("c", "kept", "hill"))

    def test_missing_rows(self):
        a, b, c = START
        raises(self, BadPlace, {"thing": "a"}, stage_of_places, example(), [])
        raises(self, BadPlace, {"thing": "a"}, stage_of_places, example(), [c, b])
        raises(self, BadPlace, {"thing": "b"}, stage_of_places, example(), [a])
        raises(self, BadPlace, {"thing": "c"}, stage_of_places, example(), [b, a])
        # Behind the checks of all rows, ahead of NotStage.
        raises(self, BadPlace, {"thing": "c"}, stage_of_places, example(), [b, ("c", "lost", None)])
        raises(self, BadPlace, {"thing": "c"}, stage_of_places, example(), [b, ("a", "kept", "mid")])

    def test_landings_that_are_no_stage_ahead_of_wrong_places(self):
        # Both a and b cannot be kept in hill, but their landings can be done; c has not floated on to mid.
        rows = [("a", "kept", "hill"), ("b", "kept", "hill"), ("c", "afloat", "side")]
        raises(self, BadPlace, {"thing": "b"}, stage_of_places, example(), rows)
        rows = [("a", "kept", "hill"), ("b", "kept", "hill"), ("c", "kept", "side")]
        raises(self, BadPlace, {"thing": "b"}, stage_of_places, example(), rows)
        rows = [("a", "kept", "mid"), ("b", "kept", "hill"), ("c", "kept", "side")]
        raises(self, NotStage, {"landing": ("a", "mid")}, stage_of_places, example(), rows)
        rows = [("c", "kept", "side"), ("b", "sea", None), ("a", "sea", None)]
        raises(self, NotStage, {"landing": ("a", "mid")}, stage_of_places, example(), rows)

    def test_nothing_is_changed(self):
        fresh(self, stage_of_places, example(), [("c", "kept", "mid"), ("b", "sea", None), ("a", "kept", "hill")])


END_TEXT = "a kept hill\nb sea\nc kept mid"


class WorldText(unittest.TestCase):

    def test_writing(self):
        same(self, write_world(World(example())), "a afloat hill\nb afloat hill\nc afloat side")
        same(self, write_world(world=World(example(), stage=END)), END_TEXT)
        same(self, write_world(World(bare())), "")

    def test_reading(self):
        self.assertTrue(read_world(example(), END_TEXT) == World(example(), stage=END))
        self.assertTrue(read_world(river=bare(), text="") == World(bare()))

    def test_there_and_back(self):
        for river in SMALL + [forked(), two_seas()]:
            for done in Model(river).stages():
                world = World(river, stage=sorted(done))
                text = write_world(world)
                self.assertTrue(read_world(river, text) == world)
                same(self, write_world(read_world(river, text)), text)

    def test_names_that_are_words_of_the_text(self):
        things = ["afloat", "kept"]
        river = River([("kept", "afloat", 1, things), ("afloat", None, 1, things)],
                      [("kept", "kept"), ("afloat", "kept")])
        text = "afloat kept kept\nkept afloat afloat"
        world = World(river, stage=[("afloat", "kept"), ("kept", "kept")])
        same(self, write_world(world), text)
        self.assertTrue(read_world(river, text) == world)

    def test_lines_at_fault(self):
        def wrong(line, text):
            raises(self, BadText, {"line": line}, read_world, example(), text)
        for row in ["", " ", "b", "b sea ", " b sea", "b  sea", "b sea sea", "b sea mid", "b Sea", "b lost",
                    "b lost mid", "b kept", "b afloat", "b kept  mid", "b kept mid ", "b kept mid mid", "b kept side", "b afloat x",
                    "b kept sea", "b afloat sea", "a sea", "c sea", "x sea", "a kept hill", "B sea", "sea", "kept mid",
                    "b  kept mid", "b kept\tmid", "b landed hill", "b afloat b"]:
            with self.subTest(row):
                wrong(2, f"a kept hill\n{row}\nc kept mid")
                wrong(2, f"a kept hill\n{row}")
                wrong(2, f"a kept hill\n{row}\nnonsense")
        wrong(1, "")
        wrong(1, "\n")
        wrong(1, "\n" + END_TEXT)
        wrong(1, "b sea\na kept hill\nc kept mid")

    def test_too_many_and_too_few_lines(self):
        def wrong(line, text):
            raises(self, BadText, {"line": line}, read_world, example(), text)
        wrong(4, END_TEXT + "\n")
        wrong(4, END_TEXT + "\nd sea")
        wrong(4, END_TEXT + "\nc kept mid")
        wrong(4, END_TEXT + "\n\n")
        wrong(2, "a kept hill")
        wrong(3, "a kept hill\nb sea")
        wrong(2, "a kept hill\n")
        wrong(3, "a kept hill\nb sea\n")

    def test_a_river_without_things(self):
        for text in ["\n", " ", "a sea", "t", "\n\n\n"]:
            raises(self, BadText, {"line": 1}, read_world, bare(), text)

    def test_errors_of_the_places(self):
        raises(self, NotStage, {"landing": ("a", "mid")}, read_world, example(), "a kept mid\nb sea\nc kept mid")
        raises(self, BadPlace, {"thing": "b"}, read_world, example(), "a kept hill\nb kept hill\nc kept mid")
        raises(self, BadPlace, {"thing": "a"}, read_world, example(), "a afloat mid\nb kept hill\nc afloat mid")
        raises(self, BadText, {"line": 3}, read_world, example(), "a kept mid\nb sea\nc kept")


if __name__ == "__main__":
    unittest.main()
