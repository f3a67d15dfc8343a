"""Turns of a river: turns.py, [38] to [40]."""

import copy
import unittest

from riverkeeps.errors import (
    BadCount, BadKind, BadLiking, BadName, BadNumber, BadRoom, DuplicateName, TownNeeded, UnknownThing, UnknownTown)
from riverkeeps.rivers import River
from riverkeeps.turns import inverse, turned
from tests.helpers import EXAMPLE_THINGS, HILL, MID, SIDE, bare, example, forked, fresh, raises, same, two_seas
from tests.model import random_river

RIVERS = [example(), bare(), two_seas(), forked()] + [random_river(seed) for seed in range(30)]
CHAIN_WORDS = ["add", "drop", "more", "less", "swap"]


def full():
    """A river of 8 towns and 10 things."""
    things = [f"h{at}" for at in range(10)]
    towns = [(f"t{at}", f"t{at + 1}" if at < 7 else None, 99 if at == 3 else 0, things) for at in range(8)]
    return River(towns, [(thing, "t0") for thing in things])


def refused(case, error, attributes, river, *turn):
    """The turn is refused, nothing is changed, and its inverse is refused likewise, or as no chain turn."""
    before = copy.deepcopy((river.town_rows(), river.thing_rows(), turn))
    raises(case, error, attributes, turned, river, turn)
    if turn[0] in CHAIN_WORDS:
        raises(case, error, attributes, inverse, river, turn)
    else:
        raises(case, BadKind, {"kind": turn[0]}, inverse, river, turn)
    case.assertEqual(before, (river.town_rows(), river.thing_rows(), turn))


def becomes(case, river, turn, towns, things):
    """The turn leads to a river of these rows, and changes neither the river nor itself."""
    before = copy.deepcopy((river.town_rows(), river.thing_rows(), turn))
    made = turned(river, turn)
    case.assertIsInstance(made, River)
    same(case, (made.town_rows(), made.thing_rows()), (towns, things))
    case.assertEqual(before, (river.town_rows(), river.thing_rows(), turn))


def chain_turns(river):
    """All chain turns of the river that are not refused, with one new thing in some places."""
    turns = [("drop", thing) for thing in river.things]
    turns += [("more", town) for town in river.towns if river.room(town) < 99]
    turns += [("less", town) for town in river.towns if river.room(town) > 0]
    turns += [("swap", town, at) for town in river.towns for at in range(len(river.things) - 1)]
    for town in river.towns:
        for at in range(len(river.things) + 1):
            turns.append(("add", "new", town, [(river.towns[-1], at)]))
            turns.append(("add", "new", town, [(name, at) for name in reversed(river.towns)]))
        turns.append(("add", "new", town, []))
    return turns


class Words(unittest.TestCase):

    def test_any_other_word(self):
        for word in ("", "Add", "add ", "remove", "swop", "river", "towns", "un", "sea"):
            for rest in ((), ("x",), (None,), (1, 2, 3, 4, 5, 6), ([],), ("hill", "mid"), ((), {}, None)):
                raises(self, BadKind, {"kind": word}, turned, example(), (word, *rest))
                raises(self, BadKind, {"kind": word}, inverse, example(), (word, *rest))

    def test_the_inverse_refuses_other_turns_by_the_word_alone(self):
        for turn in [("liking", "x", []), ("liking", "hill", ["a", "b", "c"]), ("town", "A", "x", 100, []),
                     ("town", "new", None, 0, ["a", "b", "c"]), ("untown", "x"), ("untown", "side"), ("liking",)]:
            raises(self, BadKind, {"kind": turn[0]}, inverse, example(), turn)


class Add(unittest.TestCase):

    def test_places(self):
        becomes(self, example(), ("add", "d", "side", [("mid", 0), ("hill", 2)]), [
            ("hill", "mid", 1, ["a", "b", "d", "c"]), ("mid", None, 1, ["d", "c", "a", "b"]),
            ("side", "mid", 0, ["b", "c", "a", "d"])], EXAMPLE_THINGS + [("d", "side")])
        becomes(self, example(), ("add", "aa", "mid", (("side", 3), ("hill", 0))), [
            ("hill", "mid", 1, ["aa", "a", "b", "c"]), ("mid", None, 1, ["c", "a", "b", "aa"]),
            ("side", "mid", 0, ["b", "c", "a", "aa"])], [("a", "hill"), ("aa", "mid"), ("b", "hill"), ("c", "side")])
        becomes(self, example(), ("add", "hill", "hill", []), [
            ("hill", "mid", 1, ["a", "b", "c", "hill"]), ("mid", None, 1, ["c", "a", "b", "hill"]),
            ("side", "mid", 0, ["b", "c", "a", "hill"])], EXAMPLE_THINGS + [("hill", "hill")])
        becomes(self, bare(), ("add", "a", "t", [("t", 0)]), [("t", None, 3, ["a"])], [("a", "t")])

    def test_the_checks_in_their_order(self):
        wrong = [("x", True), ("x", 9)]
        for thing in ("A", "a", "n"):
            refused(self, BadCount, {"what": "things", "many": 11}, full(), "add", thing, "x", wrong)
        nine = turned(full(), ("drop", "h0"))
        self.assertEqual(len(turned(nine, ("add", "n", "t0", [("t1", 9)])).things), 10)
        for thing in ("", "A", "sea", "it", "9a", "a" * 9, "a_", "a\n"):
            refused(self, BadName, {"name": thing}, example(), "add", thing, "x", wrong)
        for thing in "abc":
            refused(self, DuplicateName, {"name": thing}, example(), "add", thing, "x", wrong)
        for spring in ("x", "a", "sea", ""):
            refused(self, UnknownTown, {"town": spring}, example(), "add", "d", spring, wrong)

    def test_the_checks_of_the_places(self):
        refused(self, UnknownTown, {"town": "x"}, example(), "add", "d", "hill", [("mid", 3), ("x", True), ("mid", 4)])
        refused(self, UnknownTown, {"town": "a"}, example(), "add", "d", "hill", (("a", 0),))
        refused(self, DuplicateName, {"name": "mid"}, example(), "add", "d", "hill", [("mid", 0), ("mid", 4), ("x", 0)])
        refused(self, DuplicateName, {"name": "mid"}, example(), "add", "d", "hill", [("mid", 0), ("mid", 0)])
        for index in (-1, 4, True, False, 10 ** 59, -10 ** 59):
            refused(self, BadNumber, {"number": index}, example(), "add", "d", "hill",
                    [("side", 3), ("mid", index), ("mid", 0), ("x", 0)])
        for index in (1, False):
            refused(self, BadNumber, {"number": index}, bare(), "add", "a", "t", [("t", index)])


class Drop(unittest.TestCase):

    def test_answers(self):
        becomes(self, example(), ("drop", "a"), [
            ("hill", "mid", 1, ["b", "c"]), ("mid", None, 1, ["c", "b"]), ("side", "mid", 0, ["b", "c"])],
            [("b", "hill"), ("c", "side")])
        one = turned(bare(), ("add", "a", "t", []))
        becomes(self, one, ("drop", "a"), [("t", None, 3, [])], [])

    def test_unknown_things(self):
        for thing in ("x", "hill", "", "A"):
            refused(self, UnknownThing, {"thing": thing}, example(), "drop", thing)
        refused(self, UnknownThing, {"thing": "a"}, bare(), "drop", "a")


class Rooms(unittest.TestCase):

    def test_answers(self):
        becomes(self, example(), ("more", "side"), [HILL, MID, ("side", "mid", 1, ["b", "c", "a"])], EXAMPLE_THINGS)
        becomes(self, example(), ("less", "mid"), [HILL, ("mid", None, 0, ["c", "a", "b"]), SIDE], EXAMPLE_THINGS)
        self.assertEqual(turned(turned(full(), ("less", "t3")), ("more", "t3")), full())

    def test_unknown_towns(self):
        for word in ("more", "less"):
            for town in ("x", "a", "sea", ""):
                refused(self, UnknownTown, {"town": town}, example(), word, town)

    def test_the_ends_of_the_range(self):
        refused(self, BadRoom, {"town": "t3"}, full(), "more", "t3")
        refused(self, BadRoom, {"town": "t2"}, full(), "less", "t2")
        self.assertEqual(turned(full(), ("less", "t3")).room("t3"), 98)
        self.assertEqual(turned(full(), ("more", "t2")).room("t2"), 1)


class Swap(unittest.TestCase):

    def test_answers(self):
        becomes(self, example(), ("swap", "mid", 0), [HILL, ("mid", None, 1, ["a", "c", "b"]), SIDE], EXAMPLE_THINGS)
        becomes(self, example(), ("swap", "hill", 1), [("hill", "mid", 1, ["a", "c", "b"]), MID, SIDE], EXAMPLE_THINGS)

    def test_wrong(self):
        for town in ("x", "a", "sea"):
            refused(self, UnknownTown, {"town": town}, example(), "swap", town, 9)
        for at in (-1, 2, 3, True, False, 10 ** 59):
            refused(self, BadNumber, {"number": at}, example(), "swap", "mid", at)
        lonely = turned(bare(), ("add", "a", "t", []))
        for at in (-1, 0, 1, False):
            refused(self, BadNumber, {"number": at}, bare(), "swap", "t", at)
            refused(self, BadNumber, {"number": at}, lonely, "swap", "t", at)


class Liking(unittest.TestCase):

    def test_answers(self):
        for liking in (["b", "a", "c"], ("b", "a", "c")):
            becomes(self, example(), ("liking", "hill", liking), [("hill", "mid", 1, ["b", "a", "c"]), MID, SIDE],
                    EXAMPLE_THINGS)
        becomes(self, example(), ("liking", "hill", ["a", "b", "c"]), [HILL, MID, SIDE], EXAMPLE_THINGS)
        becomes(self, bare(), ("liking", "t", ()), [("t", None, 3, [])], [])

    def test_the_list_is_copied(self):
        liking = ["b", "a", "c"]
        made = turned(example(), ("liking", "hill", liking))
        liking.reverse()
        same(self, made.liking("hill"), ["b", "a", "c"])

    def test_wrong(self):
        for town in ("x", "a", "sea"):
            refused(self, UnknownTown, {"town": town}, example(), "liking", town, ["a"])
        for liking in ([], ["a", "b"], ["a", "b", "c", "a"], ["a", "b", "x"], ["a", "a", "b"], ["a", "b", "c", "x"],
                       ("a", "b"), ["a", "b", "C"]):
            refused(self, BadLiking, {"town": "mid"}, example(), "liking", "mid", liking)
        refused(self, BadLiking, {"town": "t"}, bare(), "liking", "t", ["a"])


class Town(unittest.TestCase):

    def test_answers(self):
        becomes(self, example(), ("town", "lake", "hill", 99, ["c", "b", "a"]), [
            HILL, ("lake", "hill", 99, ["c", "b", "a"]), MID, SIDE], EXAMPLE_THINGS)
        becomes(self, example(), ("town", "a", None, 0, ("c", "b", "a")), [
            ("a", None, 0, ["c", "b", "a"]), HILL, MID, SIDE], EXAMPLE_THINGS)
        becomes(self, bare(), ("town", "u", "t", 1, []), [("t", None, 3, []), ("u", "t", 1, [])], [])

    def test_the_checks_in_their_order(self):
        for name in ("A", "t0", "n"):
            refused(self, BadCount, {"what": "towns", "many": 9}, full(), "town", name, "x", 100, [])
        seven = turned(full(), ("untown", "t0"))
        self.assertEqual(len(turned(seven, ("town", "n", "t1", 0, seven.things)).towns), 8)
        for name in ("", "A", "sea", "it", "9a", "a" * 9, "a "):
            refused(self, BadName, {"name": name}, example(), "town", name, "x", 100, [])
        for name in ("hill", "mid"):
            refused(self, DuplicateName, {"name": name}, example(), "town", name, "x", 100, [])
        # The new town is not a town of the river yet.
        for after in ("x", "sea", "new", "a", ""):
            refused(self, UnknownTown, {"town": after}, example(), "town", "new", after, 100, [])
        for room in (-1, 100, True, False, 10 ** 59):
            refused(self, BadRoom, {"town": "new"}, example(), "town", "new", "mid", room, [])
            refused(self, BadRoom, {"town": "new"}, example(), "town", "new", None, room, ["a", "b", "c"])
        for liking in ([], ["a", "b"], ["a", "b", "c", "c"], ["a", "b", "x"], ("a", "b")):
            refused(self, BadLiking, {"town": "new"}, example(), "town", "new", "mid", 0, liking)


class Untown(unittest.TestCase):

    def test_answers(self):
        becomes(self, example(), ("untown", "side"), [HILL, MID], [("a", "hill"), ("b", "hill"), ("c", "mid")])
        becomes(self, example(), ("untown", "hill"), [MID, SIDE], [("a", "mid"), ("b", "mid"), ("c", "side")])
        # No thing has its spring there, so the sea may be behind it.
        becomes(self, example(), ("untown", "mid"), [("hill", None) + HILL[2:], ("side", None) + SIDE[2:]],
                EXAMPLE_THINGS)
        rows = [(name, "tail" if after == "fork" else after, room, liking)
                for name, after, room, liking in forked().town_rows() if name != "fork"]
        becomes(self, forked(), ("untown", "fork"), rows, forked().thing_rows())

    def test_wrong(self):
        for town in ("x", "a", "sea"):
            refused(self, UnknownTown, {"town": town}, example(), "untown", town)
            refused(self, UnknownTown, {"town": town}, bare(), "untown", town)
        refused(self, BadCount, {"what": "towns", "many": 0}, bare(), "untown", "t")
        lonely = turned(bare(), ("add", "a", "t", []))
        refused(self, BadCount, {"what": "towns", "many": 0}, lonely, "untown", "t")
        refused(self, TownNeeded, {"town": "y"}, two_seas(), "untown", "y")
        refused(self, TownNeeded, {"town": "x1"}, two_seas(), "untown", "x1")
        self.assertEqual(turned(two_seas(), ("untown", "x2")).spring("q"), "x1")


class Inverse(unittest.TestCase):

    def test_answers(self):
        same(self, inverse(example(), ("add", "d", "side", (("mid", 0),))), ("drop", "d"))
        same(self, inverse(river=example(), turn=("drop", "b")),
             ("add", "b", "hill", [("hill", 1), ("mid", 2), ("side", 0)]))
        same(self, inverse(example(), ("more", "hill")), ("less", "hill"))
        same(self, inverse(example(), ("less", "hill")), ("more", "hill"))
        same(self, inverse(example(), ("swap", "mid", 1)), ("swap", "mid", 1))

    def test_each_chain_turn_is_taken_back(self):
        for river in RIVERS:
            for turn in chain_turns(river):
                made = turned(river, turn)
                self.assertFalse(made == river)
                self.assertEqual(turned(made, inverse(river, turn)), river)

    def test_nothing_is_changed(self):
        fresh(self, inverse, example(), ("drop", "b"))
        fresh(self, inverse, example(), ("add", "d", "side", [("mid", 0)]))
        for turn in chain_turns(example()):
            river, passed = example(), copy.deepcopy(turn)
            turned(river, passed)
            self.assertEqual((river, passed), (example(), turn))


if __name__ == "__main__":
    unittest.main()
