"""Rivers: the making, the checks in their order, the questions [11] to [15]."""

import copy
import itertools
import unittest
from unittest import mock

from riverkeeps.errors import (
    BadCount, BadLiking, BadName, BadRoom, DuplicateName, Ring, UnknownLanding, UnknownThing, UnknownTown)
from riverkeeps.rivers import River
from tests.helpers import EXAMPLE_THINGS, HILL, MID, SIDE, bare, example, forked, fresh, raises, same, two_seas

LETTERS = "abcdefghijk"


def chain_rows(many, things=()):
    """Town rows of a chain t0 -> t1 -> ... -> sea."""
    return [(f"t{at}", f"t{at + 1}" if at + 1 < many else None, 1, list(things)) for at in range(many)]


class Making(unittest.TestCase):

    def test_the_worked_example(self):
        river = River([HILL, MID, SIDE], [("a", "hill"), ("b", "hill"), ("c", "side")])
        same(self, river.landings(), [
            ("a", "hill"), ("a", "mid"), ("b", "hill"), ("b", "mid"), ("c", "side"), ("c", "mid")])

    def test_by_names(self):
        self.assertTrue(River(towns=[HILL, MID, SIDE], things=EXAMPLE_THINGS) == example())

    def test_rows_in_any_order_make_the_same_river(self):
        for towns in itertools.permutations([HILL, MID, SIDE]):
            for things in itertools.permutations(EXAMPLE_THINGS):
                river = River(towns, list(things))
                self.assertTrue(river == example())
                same(self, river.town_rows(), [HILL, MID, SIDE])
                same(self, river.thing_rows(), EXAMPLE_THINGS)
                same(self, river.landings(), example().landings())

    def test_tuples_in_the_place_of_lists(self):
        towns = tuple((name, after, room, tuple(liking)) for name, after, room, liking in [SIDE, HILL, MID])
        river = River(towns, tuple(EXAMPLE_THINGS))
        self.assertTrue(river == example())
        same(self, river.town_rows(), [HILL, MID, SIDE])
        same(self, river.liking("mid"), ["c", "a", "b"])

    def test_the_least_and_the_greatest_rivers(self):
        things = list(LETTERS[:10])
        river = River(chain_rows(8, things), [(thing, "t0") for thing in things])
        same(self, len(river.landings()), 80)
        same(self, river.towns, ["t0", "t1", "t2", "t3", "t4", "t5", "t6", "t7"])
        same(self, bare().landings(), [])
        same(self, bare().towns, ["t"])
        same(self, bare().things, [])
        same(self, bare().thing_rows(), [])
        same(self, bare().town_rows(), [("t", None, 3, [])])

    def test_a_town_and_a_thing_may_have_the_same_name(self):
        river = River([("x", None, 1, ["x"])], [("x", "x")])
        same(self, river.landings(), [("x", "x")])

    def test_later_changes_of_the_arguments_have_no_effect(self):
        liking = ["a", "b", "c"]
        towns = [("hill", "mid", 1, liking), MID, SIDE]
        things = list(EXAMPLE_THINGS)
        river = River(towns, things)
        liking.reverse()
        towns.clear()
        things.pop()
        self.assertTrue(river == example())
        same(self, river.landings(), example().landings())

    def test_arguments_are_not_changed(self):
        towns = [SIDE, HILL, MID]
        things = list(reversed(EXAMPLE_THINGS))
        before = copy.deepcopy((towns, things))
        River(towns, things)
        same(self, (towns, things), before)


# For each step of [13]: the wrong rows, and the error that they raise if nothing else is wrong.
# "towns" and "things" are rows put behind the good ones; "many" is filled in by the test.
GOOD_TOWNS = [("m", None, 1, ["p", "q"]), ("k", "m", 1, ["q", "p"])]
GOOD_THINGS = [("q", "k"), ("p", "m")]


def with_things(many):
    """Good rows with so many things, and likings that fit."""
    names = list(LETTERS[:many])
    return [("m", None, 1, names), ("k", "m", 1, names[::-1])], [(name, "k") for name in names]


class Steps(unittest.TestCase):

    def wrong(self, error, attributes, towns, things):
        raises(self, error, attributes, River, towns, things)

    def test_1_number_of_towns(self):
        self.wrong(BadCount, {"what": "towns", "many": 0}, [], [])
        self.wrong(BadCount, {"what": "towns", "many": 9}, chain_rows(9), [])
        self.wrong(BadCount, {"what": "towns", "many": 12}, tuple(chain_rows(12)), ())
        self.wrong(BadCount, {"what": "towns", "many": 1000}, chain_rows(1000), [])

    def test_2_number_of_things(self):
        self.wrong(BadCount, {"what": "things", "many": 11}, *with_things(11))
        many = [("p", "m")] * 1000
        self.wrong(BadCount, {"what": "things", "many": 1000}, GOOD_TOWNS, many)
        River(*with_things(10))

    def test_3_names_of_towns(self):
        for name in ["", "sea", "it", "Hill", "1a", "abcdefghi", "a b"]:
            self.wrong(BadName, {"name": name}, GOOD_TOWNS + [(name, None, 1, ["p", "q"])], GOOD_THINGS)
            self.wrong(BadName, {"name": name}, [(name, None, 1, ["p", "q"])] + GOOD_TOWNS, GOOD_THINGS)
        self.wrong(DuplicateName, {"name": "m"}, GOOD_TOWNS + [("m", None, 1, ["p", "q"])], GOOD_THINGS)

    def test_3_each_row_completely_before_the_next_one(self):
        row = (None, 1, ["p", "q"])
        bad, double = ("X", *row), ("m", *row)
        self.wrong(DuplicateName, {"name": "m"}, GOOD_TOWNS + [double, bad], GOOD_THINGS)
        self.wrong(BadName, {"name": "X"}, GOOD_TOWNS + [bad, double], GOOD_THINGS)
        self.wrong(BadName, {"name": "X"}, [bad, bad], GOOD_THINGS)

    def test_4_names_of_things(self):
        for name in ["", "sea", "it", "P", "1p", "abcdefghi"]:
            self.wrong(BadName, {"name": name}, GOOD_TOWNS, GOOD_THINGS + [(name, "m")])
        self.wrong(DuplicateName, {"name": "q"}, GOOD_TOWNS, GOOD_THINGS + [("q", "m")])
        self.wrong(DuplicateName, {"name": "q"}, GOOD_TOWNS, GOOD_THINGS + [("q", "m"), ("X", "m")])
        self.wrong(BadName, {"name": "X"}, GOOD_TOWNS, GOOD_THINGS + [("X", "m"), ("q", "m")])

    def test_5_next_towns(self):
        for after in ["sea", "x", "p", "", "M", "it"]:
            self.wrong(UnknownTown, {"town": after}, GOOD_TOWNS + [("z", after, 1, ["p", "q"])], GOOD_THINGS)

    def test_5_rooms(self):
        for room in [-1, 100, True, False, 10 ** 59, -10 ** 59]:
            self.wrong(BadRoom, {"town": "z"}, GOOD_TOWNS + [("z", None, room, ["p", "q"])], GOOD_THINGS)
        for room in [0, 1, 98, 99]:
            river = River(GOOD_TOWNS + [("z", None, room, ["p", "q"])], GOOD_THINGS)
            same(self, river.room("z"), room)

    def test_5_likings(self):
        for liking in [[], ["p"], ["p", "p"], ["p", "q", "q"], ["p", "q", "x"], ["p", "x"], ["m", "k"], ("q",)]:
            self.wrong(BadLiking, {"town": "z"}, GOOD_TOWNS + [("z", None, 1, liking)], GOOD_THINGS)
        self.wrong(BadLiking, {"town": "t"}, [("t", None, 1, ["p"])], [])

    def test_5_each_row_completely_before_the_next_one(self):
        town, room, liking = ("z", "x", 1, ["p", "q"]), ("y", None, 100, ["p", "q"]), ("w", None, 1, ["p"])
        errors = [(UnknownTown, {"town": "x"}), (BadRoom, {"town": "y"}), (BadLiking, {"town": "w"})]
        for order in itertools.permutations(range(3)):
            rows = [[town, room, liking][at] for at in order]
            error, attributes = errors[order[0]]
            self.wrong(error, attributes, rows + GOOD_TOWNS, GOOD_THINGS)
            self.wrong(error, attributes, GOOD_TOWNS + rows, GOOD_THINGS)

    def test_5_order_within_a_row(self):
        self.wrong(UnknownTown, {"town": "x"}, GOOD_TOWNS + [("z", "x", 100, ["p"])], GOOD_THINGS)
        self.wrong(UnknownTown, {"town": "x"}, GOOD_TOWNS + [("z", "x", 1, ["p"])], GOOD_THINGS)
        self.wrong(BadRoom, {"town": "z"}, GOOD_TOWNS + [("z", "m", True, ["p"])], GOOD_THINGS)

    def test_6_springs(self):
        for spring in ["sea", "x", "q", ""]:
            self.wrong(UnknownTown, {"town": spring}, GOOD_TOWNS, [("q", "k"), ("p", spring)])
        self.wrong(UnknownTown, {"town": "x"}, GOOD_TOWNS, [("q", "x"), ("p", "y")])

    def test_7_rings(self):
        def rows(*pairs):
            return [(name, after, 1, []) for name, after in pairs]
        self.wrong(Ring, {"town": "t"}, rows(("t", "t")), [])
        self.wrong(Ring, {"town": "b"}, rows(("a", None), ("c", "b"), ("b", "c")), [])
        self.wrong(Ring, {"town": "a"}, rows(("c", "b"), ("b", "c"), ("a", "c")), [])
        self.wrong(Ring, {"town": "b"}, rows(("c", "c"), ("b", "c"), ("a", None)), [])
        self.wrong(Ring, {"town": "b"}, rows(("d", "d"), ("b", "b"), ("a", None)), [])
        eight = [(f"t{at}", f"t{(at + 1) % 8}") for at in range(8)]
        self.wrong(Ring, {"town": "t0"}, rows(*reversed(eight)), [])
        tail = [(f"t{at}", f"t{at + 1}") for at in range(7)] + [("t7", "t6")]
        self.wrong(Ring, {"town": "t0"}, rows(*tail), [])
        same(self, River(rows(*eight[:7], ("t7", None)), []).after("t7"), None)

    def test_each_step_ahead_of_the_later_ones(self):
        # A change of good rows for each step; the changes of later steps are made as well.
        def many_towns(towns, things):
            return towns + chain_rows(8, ["p", "q"]), things

        def many_things(towns, things):
            return towns, things + [("p", "m")] * 10

        def town_name(towns, things):
            return towns + [("Bad", None, 1, ["p", "q"])], things

        def thing_name(towns, things):
            return towns, things + [("Worse", "m")]

        def liking(towns, things):
            return towns + [("w", None, 1, ["p", "q", "r"])], things

        def spring(towns, things):
            return towns, [(name, "nowhere") for name, _ in things]

        def ring(towns, things):
            return towns + [("r", "r", 1, ["p", "q"])], things
        steps = [many_towns, many_things, town_name, thing_name, liking, spring, ring]
        alone = [(BadCount, "towns"), (BadCount, "things"), (BadName, "Bad"), (BadName, "Worse"),
                 (BadLiking, "w"), (UnknownTown, "nowhere"), (Ring, "r")]
        for chosen in itertools.product([False, True], repeat=7):
            if not any(chosen):
                continue
            towns, things = list(GOOD_TOWNS), list(GOOD_THINGS)
            for step, used in reversed(list(zip(steps, chosen))):
                if used:
                    towns, things = step(towns, things)
            error, word = alone[chosen.index(True)]
            with self.subTest(chosen), self.assertRaises(error) as caught:
                River(towns, things)
            self.assertIs(type(caught.exception), error)
            self.assertEqual(list(vars(caught.exception).values())[0], word)


class Questions(unittest.TestCase):

    def test_names(self):
        same(self, example().towns, ["hill", "mid", "side"])
        same(self, example().things, ["a", "b", "c"])
        same(self, two_seas().towns, ["x1", "x2", "y"])
        same(self, two_seas().things, ["p", "q", "r"])

    def test_towns_one_by_one(self):
        river = two_seas()
        same(self, [river.after(town) for town in river.towns], [None, "x1", None])
        same(self, [river.room(town) for town in river.towns], [2, 0, 99])
        same(self, [river.liking(town) for town in river.towns], [["r", "q", "p"], ["p", "q", "r"], ["q", "p", "r"]])
        same(self, [river.feeders(town) for town in river.towns], [["x2"], [], []])
        same(self, [river.springs(town) for town in river.towns], [["p"], ["q"], ["r"]])
        river = example()
        same(self, [river.feeders(town) for town in river.towns], [[], ["hill", "side"], []])
        same(self, [river.springs(town) for town in river.towns], [["a", "b"], [], ["c"]])

    def test_feeders_and_springs_are_ascending(self):
        towns = [("m", None, 1, ["b", "a"]), ("z", "m", 1, ["b", "a"]), ("c", "m", 1, ["b", "a"])]
        river = River(towns, [("b", "m"), ("a", "m")])
        same(self, river.feeders("m"), ["c", "z"])
        same(self, river.springs("m"), ["a", "b"])

    def test_things_one_by_one(self):
        river = two_seas()
        same(self, [river.spring(thing) for thing in river.things], ["x1", "x2", "y"])
        same(self, [river.path(thing) for thing in river.things], [["x1"], ["x2", "x1"], ["y"]])
        same(self, forked().path("c"), ["arm", "fork", "tail"])
        river = River(chain_rows(8, ["a"]), [("a", "t0")])
        same(self, river.path("a"), [f"t{at}" for at in range(8)])

    def test_prefers(self):
        river = forked()
        for town, _, _, liking in river.town_rows():
            for one, other in itertools.product(river.things, repeat=2):
                expected = liking.index(one) < liking.index(other)
                self.assertIs(river.prefers(town, one, other), expected)
        self.assertIs(river.prefers(town="top", one="d", other="a"), True)

    def test_rows(self):
        same(self, forked().town_rows(), [
            ("arm", "fork", 1, ["a", "b", "c", "d"]), ("fork", "tail", 1, ["b", "d", "a", "c"]),
            ("tail", None, 1, ["c", "a", "d", "b"]), ("top", "fork", 1, ["d", "c", "b", "a"])])
        same(self, forked().thing_rows(), [("a", "top"), ("b", "top"), ("c", "arm"), ("d", "arm")])

    def test_landing_order_follows_the_path(self):
        expected = [(thing, town) for thing in "ab" for town in ("top", "fork", "tail")]
        expected += [(thing, town) for thing in "cd" for town in ("arm", "fork", "tail")]
        same(self, forked().landings(), expected)
        self.assertNotEqual(expected, sorted(expected))

    def test_landing_number(self):
        for river in (example(), forked(), two_seas()):
            for number, landing in enumerate(river.landings()):
                same(self, river.landing_number(landing), number)
        same(self, example().landing_number(landing=("a", "mid")), 1)

    def test_by_names(self):
        river = example()
        same(self, river.after(town="hill"), "mid")
        same(self, river.room(town="side"), 0)
        same(self, river.liking(town="side"), ["b", "c", "a"])
        same(self, river.feeders(town="hill"), [])
        same(self, river.springs(town="hill"), ["a", "b"])
        same(self, river.spring(thing="c"), "side")
        same(self, river.path(thing="c"), ["side", "mid"])

    def test_unknown_towns(self):
        river = example()
        for call in (river.after, river.room, river.liking, river.feeders, river.springs):
            for town in ["x", "a", "sea", "", "Hill", "x" * 100]:
                raises(self, UnknownTown, {"town": town}, call, town)

    def test_unknown_things(self):
        river = example()
        for call in (river.spring, river.path):
            for thing in ["x", "hill", "it", "", "A"]:
                raises(self, UnknownThing, {"thing": thing}, call, thing)

    def test_prefers_checks_in_the_order_of_its_signature(self):
        prefers = example().prefers
        raises(self, UnknownTown, {"town": "x"}, prefers, "x", "y", "z")
        raises(self, UnknownThing, {"thing": "y"}, prefers, "hill", "y", "z")
        raises(self, UnknownThing, {"thing": "z"}, prefers, "hill", "a", "z")
        raises(self, UnknownThing, {"thing": "z"}, prefers, "hill", "z", "z")
        raises(self, UnknownTown, {"town": "a"}, prefers, "a", "a", "b")

    def test_unknown_landings(self):
        for landing in [("a", "side"), ("c", "hill"), ("x", "hill"), ("a", "x"), ("hill", "a"), ("", ""), ("a", "sea")]:
            raises(self, UnknownLanding, {"landing": landing}, example().landing_number, landing)
        raises(self, UnknownLanding, {"landing": ("a", "t")}, bare().landing_number, ("a", "t"))


class Copies(unittest.TestCase):

    def test_changed_answers_change_nothing(self):
        river = forked()
        calls = [lambda: river.towns, lambda: river.things, river.town_rows, river.thing_rows, river.landings]
        calls += [lambda town=town, call=call: call(town) for town in river.towns
                  for call in (river.liking, river.feeders, river.springs)]
        calls += [lambda thing=thing: river.path(thing) for thing in river.things]
        for call in calls:
            fresh(self, call)
        self.assertTrue(river == forked())
        same(self, river.landings(), forked().landings())

    def test_rows_of_a_river_make_an_equal_river(self):
        for river in (example(), forked(), two_seas(), bare()):
            self.assertTrue(River(river.town_rows(), river.thing_rows()) == river)


class Equality(unittest.TestCase):

    def test_equal_rivers(self):
        self.assertIs(example() == example(), True)
        self.assertIs(bare() == bare(), True)
        river = example()
        self.assertIs(river == river, True)

    def test_each_difference_counts(self):
        others = [
            River([("hill", None, 1, ["a", "b", "c"]), MID, SIDE], EXAMPLE_THINGS),
            River([("hill", "mid", 2, ["a", "b", "c"]), MID, SIDE], EXAMPLE_THINGS),
            River([("hill", "mid", 1, ["b", "a", "c"]), MID, SIDE], EXAMPLE_THINGS),
            River([HILL, MID, SIDE], [("a", "mid"), ("b", "hill"), ("c", "side")]),
            River([HILL, MID, SIDE, ("zoo", None, 1, ["a", "b", "c"])], EXAMPLE_THINGS),
            River([("hall", "mid", 1, ["a", "b", "c"]), MID, SIDE], [("a", "hall"), ("b", "hall"), ("c", "side")]),
            River([("t", None, 1, ["a", "b"])], [("a", "t"), ("b", "t")]),
            bare(),
        ]
        for other in others:
            self.assertIs(example() == other, False)
            self.assertIs(other == example(), False)
        self.assertIs(River([("t", None, 1, [])], []) == River([("t", None, 2, [])], []), False)
        self.assertIs(River([("t", None, 1, ["a"])], [("a", "t")]) == River([("t", None, 1, ["b"])], [("b", "t")]),
                      False)

    def test_values_that_are_no_rivers(self):
        river = example()
        for value in [None, 0, 1, True, "river", [], {}, (river.town_rows(), river.thing_rows()), object(), mock.ANY]:
            self.assertIs(river == value, False)


if __name__ == "__main__":
    unittest.main()
