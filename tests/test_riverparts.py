"""Parts of rivers: riverparts.py, with [14] and the upstream order of [36]."""

import itertools
import unittest

from riverkeeps.errors import BadName, DuplicateName, UnknownThing, UnknownTown
from riverkeeps.riverparts import (
    basin, confluence, downstream, only_things, renamed, upstream, upstream_order)
from riverkeeps.rivers import River
from tests.helpers import bare, example, forked, fresh, raises, same, two_seas
from tests.model import Model, random_river

MANY = [random_river(seed, 8, 5) for seed in range(60)]


def made(towns, things):
    """The two lists of rows of a river."""
    river = River(towns, things)
    return (river.town_rows(), river.thing_rows())


def rows(river):
    return (river.town_rows(), river.thing_rows())


class Renamed(unittest.TestCase):

    def test_nothing_new(self):
        for river in (example(), bare()):
            self.assertTrue(renamed(river) == river)
            self.assertTrue(renamed(river=river, towns=[], things=[]) == river)

    def test_a_town_and_a_thing(self):
        same(self, rows(renamed(example(), towns=[("mid", "all")], things=[("a", "z")])), made(
            [("hill", "all", 1, ["z", "b", "c"]), ("all", None, 1, ["c", "z", "b"]),
             ("side", "all", 0, ["b", "c", "z"])],
            [("z", "hill"), ("b", "hill"), ("c", "side")]))

    def test_names_are_exchanged(self):
        river = renamed(example(), towns=(("hill", "mid"), ("mid", "hill")), things=(("a", "b"), ("b", "a")))
        same(self, rows(river), made(
            [("mid", "hill", 1, ["b", "a", "c"]), ("hill", None, 1, ["c", "b", "a"]),
             ("side", "hill", 0, ["a", "c", "b"])],
            [("b", "mid"), ("a", "mid"), ("c", "side")]))

    def test_names_go_round(self):
        river = renamed(example(), things=[("a", "b"), ("b", "c"), ("c", "a")])
        same(self, river.liking("hill"), ["b", "c", "a"])
        same(self, river.thing_rows(), [("a", "side"), ("b", "hill"), ("c", "hill")])

    def test_a_name_that_becomes_free_may_be_taken(self):
        river = renamed(example(), towns=[("side", "mid"), ("mid", "low")])
        same(self, river.towns, ["hill", "low", "mid"])
        same(self, [river.after(town) for town in river.towns], ["low", None, "low"])
        same(self, river.spring("c"), "mid")

    def test_two_equal_names(self):
        self.assertTrue(renamed(example(), towns=[("mid", "mid")], things=[("a", "a")]) == example())

    def test_towns_and_things_are_named_separately(self):
        river = renamed(example(), towns=[("hill", "a")], things=[("a", "hill")])
        same(self, river.springs("a"), ["b", "hill"])

    def test_all_names_at_once_and_back(self):
        for river in MANY:
            towns = [(town, f"n{at}") for at, town in enumerate(reversed(river.towns))]
            things = [(thing, f"n{at}") for at, thing in enumerate(river.things)]
            new = renamed(river, towns=towns, things=things)
            names, words = dict(towns), dict(things)
            expected = made(
                [(names[name], names.get(after), room, [words[thing] for thing in liking])
                 for name, after, room, liking in river.town_rows()],
                [(words[name], names[spring]) for name, spring in river.thing_rows()])
            same(self, rows(new), expected)
            back = renamed(new, towns=[pair[::-1] for pair in towns], things=[pair[::-1] for pair in things])
            self.assertTrue(back == river)

    def test_wrong_towns(self):
        def wrong(error, attributes, *towns):
            raises(self, error, attributes, renamed, example(), towns=towns)
            raises(self, error, attributes, renamed, example(), towns=list(towns), things=[("x", "Y")])
        wrong(UnknownTown, {"town": "x"}, ("x", "y"))
        wrong(UnknownTown, {"town": "a"}, ("a", "b"))
        wrong(DuplicateName, {"name": "mid"}, ("mid", "x"), ("mid", "y"))
        wrong(DuplicateName, {"name": "mid"}, ("mid", "mid"), ("mid", "mid"))
        for name in ["", "sea", "it", "Mid", "ninechars", "1a", "a b"]:
            wrong(BadName, {"name": name}, ("mid", name))
        # Within a pair: the old name, an earlier pair, the new name. Each pair completely before the next one.
        wrong(UnknownTown, {"town": "x"}, ("x", "Bad"))
        wrong(UnknownTown, {"town": "x"}, ("x", "y"), ("x", "y"))
        wrong(DuplicateName, {"name": "mid"}, ("mid", "x"), ("mid", "Bad"))
        wrong(BadName, {"name": "Bad"}, ("mid", "Bad"), ("mid", "x"), ("x", "y"))
        wrong(DuplicateName, {"name": "mid"}, ("mid", "x"), ("mid", "y"), ("x", "y"))
        wrong(UnknownTown, {"town": "x"}, ("mid", "y"), ("x", "y"), ("mid", "Bad"))

    def test_towns_that_would_have_the_same_name(self):
        def wrong(name, *towns):
            raises(self, DuplicateName, {"name": name}, renamed, example(), towns=towns)
        wrong("hill", ("mid", "hill"))
        wrong("side", ("mid", "side"))
        wrong("x", ("mid", "x"), ("hill", "x"))
        wrong("x", ("mid", "x"), ("hill", "x"), ("side", "x"))
        # The least such name, and only behind the checks of all pairs.
        river = River([(name, None, 1, []) for name in ("a", "b", "c", "d")], [])
        raises(self, DuplicateName, {"name": "m"}, renamed, river, towns=[(a, b) for a, b in zip("abcd", "zmzm")])
        raises(self, DuplicateName, {"name": "a"}, renamed, river, towns=[("d", "c"), ("b", "a")])
        raises(self, BadName, {"name": "X"}, renamed, river, towns=[("d", "c"), ("b", "X")])

    def test_wrong_things(self):
        def wrong(error, attributes, *things):
            raises(self, error, attributes, renamed, example(), things=things)
        wrong(UnknownThing, {"thing": "x"}, ("x", "y"))
        wrong(UnknownThing, {"thing": "mid"}, ("mid", "y"))
        wrong(DuplicateName, {"name": "a"}, ("a", "x"), ("a", "y"))
        for name in ["", "sea", "it", "A", "ninechars"]:
            wrong(BadName, {"name": name}, ("a", name))
        wrong(UnknownThing, {"thing": "x"}, ("x", "Bad"))
        wrong(DuplicateName, {"name": "a"}, ("a", "x"), ("a", "Bad"))
        wrong(BadName, {"name": "Bad"}, ("a", "Bad"), ("a", "x"))
        wrong(DuplicateName, {"name": "b"}, ("a", "b"))
        wrong(DuplicateName, {"name": "b"}, ("c", "b"), ("a", "d"))
        wrong(BadName, {"name": "Bad"}, ("c", "b"), ("a", "Bad"))

    def test_towns_ahead_of_things(self):
        raises(self, DuplicateName, {"name": "hill"}, renamed, example(), towns=[("mid", "hill")], things=[("x", "y")])
        raises(self, UnknownThing, {"thing": "x"}, renamed, example(), towns=[("mid", "low")], things=[("x", "y")])
        raises(self, UnknownTown, {"town": "x"}, renamed, example(), things=[("x", "y")], towns=[("x", "y")])

    def test_arguments_are_not_changed(self):
        river, towns, things = example(), [("mid", "low")], [("a", "z")]
        renamed(river, towns=towns, things=things)
        self.assertTrue(river == example())
        same(self, (towns, things), ([("mid", "low")], [("a", "z")]))


class UpAndDown(unittest.TestCase):

    def test_answers(self):
        same(self, upstream(example(), "mid"), ["hill", "mid", "side"])
        same(self, upstream(example(), "side"), ["side"])
        same(self, downstream(example(), "side"), ["side", "mid"])
        same(self, downstream(example(), "mid"), ["mid"])
        same(self, upstream(river=forked(), town="fork"), ["arm", "fork", "top"])
        same(self, downstream(river=forked(), town="top"), ["top", "fork", "tail"])
        same(self, upstream(forked(), "tail"), ["arm", "fork", "tail", "top"])
        same(self, upstream(two_seas(), "y"), ["y"])
        same(self, downstream(bare(), "t"), ["t"])

    def test_all_towns_of_many_rivers(self):
        for river in MANY:
            below = {}
            for town in river.towns:
                way, at = [], town
                while at is not None:
                    way.append(at)
                    at = river.after(at)
                below[town] = way
                same(self, downstream(river, town), way)
            for town in river.towns:
                same(self, upstream(river, town), sorted(name for name in river.towns if town in below[name]))

    def test_unknown_towns(self):
        for call in (upstream, downstream, basin):
            for town in ["x", "a", "sea", ""]:
                raises(self, UnknownTown, {"town": town}, call, example(), town)

    def test_answers_are_new(self):
        fresh(self, upstream, example(), "mid")
        fresh(self, downstream, example(), "hill")


class Confluence(unittest.TestCase):

    def test_answers(self):
        river = forked()
        same(self, confluence(river, "top", "arm"), "fork")
        same(self, confluence(river, "arm", "top"), "fork")
        same(self, confluence(river, "top", "tail"), "tail")
        same(self, confluence(river, "tail", "top"), "tail")
        same(self, confluence(river, "fork", "top"), "fork")
        same(self, confluence(river, "arm", "arm"), "arm")
        same(self, confluence(river=two_seas(), one="x2", other="y"), None)
        same(self, confluence(two_seas(), "y", "x1"), None)

    def test_all_pairs_of_many_rivers(self):
        for river in MANY:
            for one, other in itertools.product(river.towns, repeat=2):
                common = [town for town in downstream(river, one) if town in downstream(river, other)]
                same(self, confluence(river, one, other), common[0] if common else None)

    def test_wrong_towns(self):
        raises(self, UnknownTown, {"town": "x"}, confluence, example(), "x", "y")
        raises(self, UnknownTown, {"town": "y"}, confluence, example(), "mid", "y")
        raises(self, UnknownTown, {"town": "a"}, confluence, example(), "a", "mid")


class UpstreamOrder(unittest.TestCase):

    def test_answers(self):
        same(self, upstream_order(example()), ["hill", "side", "mid"])
        same(self, upstream_order(river=forked()), ["arm", "top", "fork", "tail"])
        same(self, upstream_order(two_seas()), ["x2", "x1", "y"])
        same(self, upstream_order(bare()), ["t"])
        # After b the town a can stand, and it is less than c, which could have stood before.
        river = River([("a", None, 0, []), ("b", "a", 0, []), ("c", None, 0, [])], [])
        same(self, upstream_order(river), ["b", "a", "c"])

    def test_many_rivers(self):
        for river in MANY:
            # Of all orders in which each town stands behind its feeders, the least one is the upstream order.
            left, expected = set(river.towns), []
            while left:
                least = min(town for town in left if not any(river.after(name) == town for name in left))
                expected.append(least)
                left.remove(least)
            same(self, upstream_order(river), expected)

    def test_answers_are_new(self):
        fresh(self, upstream_order, example())


class Basin(unittest.TestCase):

    def test_answers(self):
        same(self, rows(basin(example(), "mid")), rows(example()))
        same(self, rows(basin(example(), "hill")),
             made([("hill", None, 1, ["a", "b"])], [("a", "hill"), ("b", "hill")]))
        same(self, rows(basin(river=example(), town="side")), made([("side", None, 0, ["c"])], [("c", "side")]))
        same(self, rows(basin(forked(), "fork")), made(
            [("top", "fork", 1, ["d", "c", "b", "a"]), ("arm", "fork", 1, ["a", "b", "c", "d"]),
             ("fork", None, 1, ["b", "d", "a", "c"])], [("a", "top"), ("b", "top"), ("c", "arm"), ("d", "arm")]))
        self.assertTrue(basin(bare(), "t") == bare())

    def test_many_rivers(self):
        for river in MANY:
            for town in river.towns:
                towns = [name for name in river.towns if town in downstream(river, name)]
                things = [thing for thing in river.things if river.spring(thing) in towns]
                expected = made(
                    [(name, None if name == town else after, room, [thing for thing in liking if thing in things])
                     for name, after, room, liking in river.town_rows() if name in towns],
                    [row for row in river.thing_rows() if row[0] in things])
                same(self, rows(basin(river, town)), expected)

    def test_the_river_is_not_changed(self):
        river = example()
        basin(river, "hill")
        self.assertTrue(river == example())


class OnlyThings(unittest.TestCase):

    def test_answers(self):
        same(self, rows(only_things(example(), ["c", "a"])), made(
            [("hill", "mid", 1, ["a", "c"]), ("mid", None, 1, ["c", "a"]), ("side", "mid", 0, ["c", "a"])],
            [("a", "hill"), ("c", "side")]))
        same(self, rows(only_things(river=example(), things=())), made(
            [("hill", "mid", 1, []), ("mid", None, 1, []), ("side", "mid", 0, [])], []))
        self.assertTrue(only_things(example(), ("b", "c", "a")) == example())
        self.assertTrue(only_things(bare(), []) == bare())

    def test_wrong(self):
        raises(self, UnknownThing, {"thing": "x"}, only_things, example(), ["a", "x", "a"])
        raises(self, DuplicateName, {"name": "a"}, only_things, example(), ["a", "b", "a", "x"])
        raises(self, UnknownThing, {"thing": "mid"}, only_things, example(), ("mid",))
        raises(self, UnknownThing, {"thing": "x"}, only_things, example(), ["x", "x"])
        raises(self, UnknownThing, {"thing": "a"}, only_things, bare(), ["a"])

    def test_arguments_are_not_changed(self):
        river, things = example(), ["c", "a"]
        only_things(river, things)
        self.assertTrue(river == example())
        same(self, things, ["c", "a"])


class ModelFits(unittest.TestCase):

    def test_the_paths_of_the_tests_model(self):
        for river in MANY:
            same(self, Model(river).landings, river.landings())


if __name__ == "__main__":
    unittest.main()
