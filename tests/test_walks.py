"""All histories of small rivers, walked by the tests themselves, against what the program tells [18] to [22]."""

import unittest

from riverkeeps.flow import greatest_within, is_open
from riverkeeps.stages import free_landings, greatest_stage, is_stage
from riverkeeps.worlds import World
from tests.helpers import example, forked, same, two_seas
from tests.model import Model, small_rivers, subsets

SMALL = small_rivers(30, least=3, most=8, most_things=5) + [example(), two_seas()]


class Walks(unittest.TestCase):

    def test_the_places_after_every_history_are_those_of_its_stage(self):
        for river in SMALL + [forked()]:
            model = Model(river)
            for history, places in model.histories():
                world = World(river, stage=history)
                self.assertEqual(world.places(), model.rows(places))
                self.assertEqual(world.free(), model.free(places))

    def test_the_stages_are_what_the_histories_reach(self):
        for river in SMALL:
            reached = {frozenset(history) for history, _ in Model(river).histories()}
            for landings in subsets(river.landings()):
                self.assertIs(is_stage(river, landings), frozenset(landings) in reached)
                self.assertEqual(frozenset(greatest_within(river, landings)),
                                 frozenset().union(*[one for one in reached if one.issubset(landings)]))

    def test_every_history_that_cannot_be_continued_does_the_end(self):
        for river in SMALL + [forked()]:
            model = Model(river)
            end = greatest_stage(river)
            finished = 0
            for history, places in model.histories():
                self.assertIs(World(river, stage=history).ended, model.free(places) == [])
                if not model.free(places):
                    finished += 1
                    same(self, model.ordered(history), end)
                else:
                    self.assertNotEqual(model.ordered(history), end)
            self.assertGreater(finished, 0)

    def test_what_a_town_keeps_and_what_has_floated_on(self):
        # The words of [19], worked out from the set of the landings alone.
        for river in SMALL + [forked()]:
            model = Model(river)
            for done in model.stages():
                world = World(river, stage=sorted(done))
                for town in model.towns:
                    landed = [thing for thing in model.liking[town] if (thing, town) in done]
                    same(self, world.kept(town), landed[:model.room[town]])
                    floated = [thing for thing in landed if world.place(thing) != ("kept", town)]
                    same(self, floated, landed[model.room[town]:])

    def test_free_landings_are_open_and_stay_free(self):
        for river in SMALL:
            model = Model(river)
            stages = model.stages()
            for done in stages:
                free = free_landings(river, sorted(done))
                same(self, free, [landing for landing in model.landings if landing not in done
                                  and is_open(river, sorted(done), landing)])
                self.assertEqual(len({thing for thing, _ in free}), len(free))
                for landing in free:
                    later = free_landings(river, sorted(done | {landing}))
                    self.assertTrue(all(one in later for one in free if one != landing))


if __name__ == "__main__":
    unittest.main()
