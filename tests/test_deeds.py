"""Deeds, refusals and neighbours in a history: deeds.py, [18], [25] to [27]."""

import itertools
import unittest

from riverkeeps.deeds import (
    can_exchange, exchange_path, history_of, is_exchange_path, is_history, land, landing_report, middle, play, refusal,
    replay, town_record)
from riverkeeps.errors import BadNumber, DeedRefused, ThingAtSea, ThingKept, UnknownThing, UnknownTown, WrongEnd
from riverkeeps.rivers import River
from riverkeeps.worlds import World
from tests.helpers import HILL, MID, SIDE, bare, example, forked, fresh, raises, same, two_seas
from tests.model import Model, small_rivers

SMALL = small_rivers(15, least=3, most=6)
RIVERS = SMALL + [example(), two_seas()]

A, B, B2, C, C2 = ("a", "hill"), ("b", "hill"), ("b", "mid"), ("c", "side"), ("c", "mid")
END = [A, B, B2, C, C2]


def start():
    return World(example())


def at(*stage):
    return World(example(), stage=stage)


def other_river():
    """The example with more room in mid, where the same histories are possible at first."""
    return River([HILL, ("mid", None, 2, ["c", "a", "b"]), SIDE], example().thing_rows())


def walked(river):
    """Each history of the model from the start, with the places after it."""
    return list(Model(river).histories())


class Refusal(unittest.TestCase):

    def test_answers(self):
        world = at(*END)
        same(self, [refusal(world, thing) for thing in "abc"], ["kept", "sea", "kept"])
        same(self, [refusal(start(), thing) for thing in "abc"], [None, None, None])
        for thing in ["x", "hill", "", "A", "No name at all", "x" * 100]:
            same(self, refusal(world=start(), thing=thing), "unknown")
        same(self, refusal(World(bare()), "a"), "unknown")

    def test_all_worlds(self):
        for river in RIVERS:
            for done, places in Model(river).stages().items():
                world = World(river, stage=sorted(done))
                for thing, (kind, _) in places.items():
                    same(self, refusal(world, thing), None if kind == "afloat" else kind)


class Land(unittest.TestCase):

    def test_answers(self):
        world = start()
        self.assertTrue(land(world, "b") == at(B))
        self.assertTrue(land(world=at(A, B), thing="b") == at(A, B, B2))
        self.assertTrue(world == start())

    def test_refused(self):
        world = at(*END)
        raises(self, UnknownThing, {"thing": "x"}, land, world, "x")
        raises(self, ThingKept, {"thing": "a", "town": "hill"}, land, world, "a")
        raises(self, ThingKept, {"thing": "c", "town": "mid"}, land, world, "c")
        raises(self, ThingAtSea, {"thing": "b"}, land, world, "b")
        raises(self, UnknownThing, {"thing": "hill"}, land, start(), "hill")

    def test_all_worlds(self):
        for river in RIVERS:
            model = Model(river)
            for done, places in model.stages().items():
                world = World(river, stage=sorted(done))
                for thing, (kind, town) in places.items():
                    for call in (land, landing_report):
                        if kind == "kept":
                            raises(self, ThingKept, {"thing": thing, "town": town}, call, world, thing)
                        if kind == "sea":
                            raises(self, ThingAtSea, {"thing": thing}, call, world, thing)
                    if kind == "afloat":
                        after, floated = model.land(places, thing)
                        same(self, land(world, thing).places(), model.rows(after))
                        same(self, land(world, thing).stage, model.ordered(done | {(thing, town)}))
                        same(self, landing_report(world, thing), (thing, town, floated))
                same(self, world.stage, model.ordered(done))


class LandingReport(unittest.TestCase):

    def test_answers(self):
        same(self, landing_report(start(), "a"), ("a", "hill", None))
        same(self, landing_report(at(B), "a"), ("a", "hill", "b"))
        same(self, landing_report(at(A), "b"), ("b", "hill", "b"))
        same(self, landing_report(start(), "c"), ("c", "side", "c"))
        same(self, landing_report(world=at(A, B, B2, C), thing="c"), ("c", "mid", "b"))
        # The thing that floated on earlier does not float on again.
        river = River([("t", None, 1, ["x", "y", "z"])], [("x", "t"), ("y", "t"), ("z", "t")])
        same(self, landing_report(World(river, stage=[("y", "t"), ("z", "t")]), "x"), ("x", "t", "y"))

    def test_refused(self):
        world = at(*END)
        raises(self, UnknownThing, {"thing": "x"}, landing_report, world, "x")
        raises(self, ThingKept, {"thing": "a", "town": "hill"}, landing_report, world, "a")
        raises(self, ThingAtSea, {"thing": "b"}, landing_report, world, "b")


class Play(unittest.TestCase):

    def test_answers(self):
        self.assertTrue(play(start(), []) == start())
        self.assertTrue(play(world=start(), things=("b", "a", "b", "c", "c")) == at(*END))
        same(self, history_of(start(), ["b", "a", "b", "c", "c"]), [B, A, B2, C, C2])
        same(self, history_of(world=at(A, B), things=("c", "b", "c")), [C, B2, C2])
        same(self, history_of(start(), ()), [])

    def test_refused(self):
        cases = [
            (start(), ["x"], 0, "unknown"), (start(), ["a", "x", "a"], 1, "unknown"), (start(), ["a", "a"], 1, "kept"),
            (start(), ["b", "b", "a"], 1, "kept"), (start(), ["a", "b", "b", "c", "c", "b"], 5, "sea"),
            (at(*END), ["b"], 0, "sea"), (at(*END), ["c", "b"], 0, "kept"), (World(bare()), ["a"], 0, "unknown"),
            (start(), ["c", "hill"], 1, "unknown"), (start(), ["a"] * 1000, 1, "kept"),
        ]
        for world, things, number, cause in cases:
            for call in (play, history_of):
                raises(self, DeedRefused, {"at": number, "cause": cause}, call, world, things)
                raises(self, DeedRefused, {"at": number, "cause": cause}, call, world, tuple(things))

    def test_all_histories(self):
        for river in RIVERS:
            for history, places in walked(river):
                things = [thing for thing, _ in history]
                same(self, history_of(World(river), things), history)
                self.assertEqual(play(World(river), things).places(), Model(river).rows(places))

    def test_nothing_is_changed(self):
        world = at(B)
        play(world, ["a", "b"])
        self.assertTrue(world == at(B))
        fresh(self, history_of, at(B), ["a", "b"])


class Replay(unittest.TestCase):

    def test_answers(self):
        self.assertTrue(replay(start(), []) == start())
        self.assertTrue(replay(world=start(), history=(B, A, B2, C, C2)) == at(*END))
        self.assertTrue(replay(at(B), [A, B2]) == at(A, B, B2))

    REFUSED = [
        ((), [("x", "hill")], 0, "unknown"), ((), [("hill", "a")], 0, "unknown"), ((), [A, ("x", "y")], 1, "unknown"),
        ((), [("", "")], 0, "unknown"), ((), [A, A], 1, "kept"), ((), [A, ("a", "mid")], 1, "kept"),
        ((), [A, ("a", "side")], 1, "kept"), ((), [A, ("a", "nowhere")], 1, "kept"), (END, [B2], 0, "sea"),
        (END, [("b", "nowhere")], 0, "sea"), (END, [C2], 0, "kept"), ((), [B2], 0, "elsewhere"),
        ((), [("a", "side")], 0, "elsewhere"), ((), [("a", "nowhere")], 0, "elsewhere"),
        ((), [("a", "")], 0, "elsewhere"),
        ((A, B), [C, B], 1, "elsewhere"), ((A, B), [B2, B2], 1, "kept"),
        ((A, B, C), [C2, B2, B2], 2, "sea"), ((), [C, C], 1, "elsewhere"),
        ((), [A, B, B2, C2], 3, "elsewhere"), ((), [A, C2, ("x", "y")], 1, "elsewhere"),
    ]

    def test_refused(self):
        for stage, history, number, cause in self.REFUSED:
            with self.subTest(history):
                world = at(*stage)
                attributes = {"at": number, "cause": cause}
                raises(self, DeedRefused, attributes, replay, world, history)
                raises(self, DeedRefused, attributes, replay, world, tuple(history))
                raises(self, DeedRefused, attributes, middle, world, history, -1)
                raises(self, DeedRefused, attributes, can_exchange, world, history, -1)
                raises(self, DeedRefused, attributes, town_record, world, history, "nowhere")
                raises(self, DeedRefused, attributes, exchange_path, world, history, [("x", "y")])
                raises(self, DeedRefused, attributes, exchange_path, world, [], history)
                raises(self, DeedRefused, attributes, is_exchange_path, world, history, [("x", "y")], [])
                raises(self, DeedRefused, attributes, is_exchange_path, world, [], history, [0])
                self.assertIs(is_history(world, history), False)
                self.assertIs(is_history(world, tuple(history), goal=world), False)

    def test_all_histories(self):
        for river in RIVERS:
            for history, places in walked(river):
                self.assertEqual(replay(World(river), history).places(), Model(river).rows(places))
                self.assertIs(is_history(World(river), history), True)
                for cut in range(len(history)):
                    world = World(river, stage=history[:cut])
                    self.assertEqual(replay(world, history[cut:]).stage, Model(river).ordered(history))


class IsHistory(unittest.TestCase):

    def test_without_a_goal(self):
        self.assertIs(is_history(start(), []), True)
        self.assertIs(is_history(start(), (B, A, B2)), True)
        self.assertIs(is_history(world=at(B), history=[A, B2], goal=None), True)
        self.assertIs(is_history(at(A, B), [B2, C2]), False)

    def test_with_a_goal(self):
        self.assertIs(is_history(start(), [B, A], goal=at(A, B)), True)
        self.assertIs(is_history(start(), [B, A], goal=at(A)), False)
        self.assertIs(is_history(start(), [B, A], goal=at(A, B, B2)), False)
        # The world of the empty stage has the length 0; it is a goal all the same.
        self.assertIs(is_history(start(), [], goal=start()), True)
        self.assertIs(is_history(start(), [B], goal=start()), False)
        self.assertIs(is_history(at(A), [], goal=start()), False)

    def test_a_goal_of_another_river(self):
        self.assertIs(is_history(start(), [B, A], goal=World(other_river(), stage=[A, B])), False)
        self.assertIs(is_history(World(other_river()), [B, A], goal=World(other_river(), stage=[A, B])), True)
        self.assertIs(is_history(start(), [], goal=World(other_river())), False)

    def test_all_permutations(self):
        for river in [example()] + SMALL[:5]:
            histories = [history for history, _ in walked(river)]
            for many in range(4):
                for history in itertools.permutations(river.landings(), many):
                    self.assertIs(is_history(World(river), history), list(history) in histories)

    def test_repeated_landings(self):
        self.assertIs(is_history(start(), [A, A]), False)
        self.assertIs(is_history(start(), [C, C2, C]), False)


class Middle(unittest.TestCase):

    def test_answers(self):
        history = [B, A, B2, C, C2]
        for number in range(6):
            self.assertTrue(middle(start(), history, number) == at(*history[:number]))
            self.assertTrue(middle(world=start(), history=tuple(history), at=number) == at(*history[:number]))
        self.assertTrue(middle(at(B), [A, B2], 1) == at(A, B))
        self.assertTrue(middle(at(B), [], 0) == at(B))

    def test_wrong_numbers(self):
        for number in [-1, 3, 4, True, False, 10 ** 59]:
            raises(self, BadNumber, {"number": number}, middle, start(), [B, A], number)
        raises(self, BadNumber, {"number": 1}, middle, start(), [], 1)
        raises(self, DeedRefused, {"at": 1, "cause": "kept"}, middle, start(), [B, B], 0)


class CanExchange(unittest.TestCase):

    def test_answers(self):
        self.assertIs(can_exchange(start(), [B, A, B2], 0), True)
        self.assertIs(can_exchange(start(), [B, A, B2], 1), False)
        self.assertIs(can_exchange(world=start(), history=(C, C2), at=0), False)
        self.assertIs(can_exchange(at(A, B), [B2, C], 0), True)

    def test_wrong_numbers(self):
        for number in [-1, 2, 3, True, False, -10 ** 59]:
            raises(self, BadNumber, {"number": number}, can_exchange, start(), [B, A, B2], number)
        for history in ([], [A]):
            for number in [-2, -1, 0, 1]:
                raises(self, BadNumber, {"number": number}, can_exchange, start(), history, number)
        raises(self, DeedRefused, {"at": 2, "cause": "kept"}, can_exchange, start(), [A, B, A], 0)

    def test_all_histories(self):
        for river in RIVERS:
            known = {tuple(history): places for history, places in walked(river)}
            for history, places in known.items():
                for number in range(len(history) - 1):
                    swapped = history[:number] + (history[number + 1], history[number]) + history[number + 2:]
                    self.assertIs(can_exchange(World(river), history, number), swapped in known)
                    if swapped in known:
                        self.assertEqual(known[swapped], places)


class ExchangePath(unittest.TestCase):

    def test_answers(self):
        same(self, exchange_path(start(), [A, B, C], [A, B, C]), [])
        same(self, exchange_path(start(), [A, B, C], (C, B, A)), [1, 0, 1])
        same(self, exchange_path(world=start(), one=(A, B, C), other=[C, A, B]), [1, 0])
        same(self, exchange_path(start(), [A, B, B2, C, C2], [C, C2, B, A, B2]), [2, 1, 0, 3, 2, 1, 2])
        same(self, exchange_path(start(), [], []), [])
        same(self, exchange_path(at(A, B), [B2, C, C2], [C, B2, C2]), [0])

    def test_all_pairs_of_histories(self):
        for river in SMALL[:10] + [example()]:
            groups = {}
            for history, _ in walked(river):
                groups.setdefault(frozenset(history), []).append(history)
            for histories in groups.values():
                for one, other in itertools.product(histories[:8], histories[-8:]):
                    # By hand, as [27] tells it.
                    present, expected = list(one), []
                    for number, landing in enumerate(other):
                        place = present.index(landing)
                        while place > number:
                            place -= 1
                            present[place], present[place + 1] = present[place + 1], present[place]
                            expected.append(place)
                    self.assertEqual(present, other)
                    same(self, exchange_path(World(river), one, other), expected)
                    self.assertIs(is_exchange_path(World(river), one, other, expected), True)

    def test_the_greatest_length(self):
        towns = [(f"t{number}", f"t{number + 1}" if number < 3 else None, 0, list("abcdef")) for number in range(4)]
        river = River(towns, [(thing, "t0") for thing in "abcdef"])
        one, other = river.landings(), [(thing, town) for thing in "fedcba" for town in river.towns]
        path = exchange_path(World(river), one, other)
        same(self, len(path), 240)
        self.assertIs(is_exchange_path(World(river), one, other, path), True)
        self.assertIs(is_exchange_path(World(river), one, other, path + [3, 3] * 80), True)
        self.assertIs(is_exchange_path(World(river), one, other, path[:-1]), False)

    def test_wrong_ends(self):
        cases = [([A], [], A), ([], [A], A), ([A, B, C], [C, A], B), ([C, A], [A, B], B), ([C, A, B], [A, B, B2], B2),
                 ([B, C], [A, C], A), ([A, B, B2], [A, B, C], B2)]
        for one, other, landing in cases:
            raises(self, WrongEnd, {"landing": landing}, exchange_path, start(), one, other)
            raises(self, WrongEnd, {"landing": landing}, exchange_path, start(), tuple(one), tuple(other))
            for path in ([], [0], [-1], [True]):
                raises(self, WrongEnd, {"landing": landing}, is_exchange_path, start(), one, other, path)

    def test_the_first_wrong_landing_is_told_in_landing_order(self):
        # In forked() the landing order is not Python's order of tuples: (a, top) comes before (a, fork).
        one = [("d", "arm"), ("b", "top"), ("a", "top")]
        raises(self, WrongEnd, {"landing": ("a", "top")}, exchange_path, World(forked()), one, [])
        stage = [("b", "top"), ("a", "top")]
        history = [("a", "fork"), ("b", "top")]
        raises(self, WrongEnd, {"landing": ("a", "top")}, exchange_path, World(forked(), stage=stage[:1]),
               [("a", "top"), history[0]], [])

    def test_the_first_history_is_replayed_first(self):
        raises(self, DeedRefused, {"at": 0, "cause": "unknown"}, exchange_path, start(), [("x", "y")], [A, A])
        raises(self, DeedRefused, {"at": 1, "cause": "kept"}, exchange_path, start(), [A, B], [A, A])

    def test_nothing_is_changed(self):
        fresh(self, exchange_path, start(), [A, B, C], [C, B, A])
        fresh(self, is_exchange_path, start(), [A, B, C], [C, A, B], [1, 0])


class IsExchangePath(unittest.TestCase):

    def judge(self, path, one=(A, B, C), other=(C, B, A)):
        answers = [is_exchange_path(start(), *kinds, path) for kinds in [(one, other), (list(one), list(other))]]
        answers.append(is_exchange_path(world=start(), one=one, other=list(other), path=tuple(path)))
        self.assertEqual(len(set(answers)), 1)
        self.assertIsInstance(answers[0], bool)
        return answers[0]

    def test_right(self):
        self.assertTrue(self.judge([1, 0, 1]))
        self.assertTrue(self.judge([0, 1, 0]))
        self.assertTrue(self.judge([0, 0, 1, 1, 0, 1, 0]))
        self.assertTrue(self.judge([], other=(A, B, C)))
        self.assertTrue(self.judge([0, 0] * 200, other=(A, B, C)))
        self.assertTrue(self.judge([], one=(), other=()))

    def test_wrong(self):
        for path in [[], [0], [1, 0], [1, 0, 1, 0], [0, 1, 0, 1], [2], [-1], [1, 0, 2], [1, 0, -2], [1, 0, 1, 2],
                     [1, 0, 1, -1], [10 ** 59], [True, 0, True], [1, False, 1], [1, 0, True], [False, 1, False]]:
            self.assertFalse(self.judge(path), path)
        self.assertFalse(self.judge([0], one=(), other=()))
        self.assertFalse(self.judge([0], one=(A,), other=(A,)))
        self.assertFalse(self.judge([-1], one=(A,), other=(A,)))

    def test_each_step_gives_a_history(self):
        one, other = (A, B, B2), (B, A, B2)
        self.assertTrue(self.judge([0], one, other))
        self.assertFalse(self.judge([1, 1, 0], one, other))
        self.assertFalse(self.judge([0, 1, 1], one, other))
        self.assertFalse(self.judge([1, 1], one, one))


class TownRecord(unittest.TestCase):

    def test_answers(self):
        history = [B, A, B2, C, C2]
        same(self, town_record(start(), history, "hill"), [("b", None), ("a", "b")])
        same(self, town_record(start(), tuple(history), "mid"), [("b", None), ("c", "b")])
        same(self, town_record(world=start(), history=history, town="side"), [("c", "c")])
        same(self, town_record(start(), [A], "mid"), [])
        same(self, town_record(at(A), [B, B2], "hill"), [("b", "b")])
        same(self, town_record(start(), [], "hill"), [])

    def test_all_histories(self):
        for river in RIVERS:
            model = Model(river)
            for history, _ in walked(river):
                records = {town: [] for town in model.towns}
                places = model.start()
                for thing, town in history:
                    places, floated = model.land(places, thing)
                    records[town].append((thing, floated))
                for town, record in records.items():
                    same(self, town_record(World(river), history, town), record)

    def test_wrong(self):
        raises(self, UnknownTown, {"town": "x"}, town_record, start(), [A], "x")
        raises(self, UnknownTown, {"town": "a"}, town_record, start(), [], "a")
        raises(self, DeedRefused, {"at": 0, "cause": "elsewhere"}, town_record, start(), [C2], "x")

    def test_nothing_is_changed(self):
        fresh(self, town_record, start(), [B, A, B2], "hill")


if __name__ == "__main__":
    unittest.main()
