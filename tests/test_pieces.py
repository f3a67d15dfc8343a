"""Pieces: pieces.py, [52] to [55]."""

import copy
import itertools
import random
import unittest

from riverkeeps.errors import (
    BadCount, BadLiking, BadName, BadNumber, BadOutlet, BadRoom, DuplicateName, Ring, TooMany, UnknownThing,
    UnknownTown)
from riverkeeps.pieces import Piece, filled, inflows, outflow, outflow_table
from riverkeeps.rivers import River
from tests.helpers import fresh, lists_in, raises, same, spoil
from tests.model import Model

UP = ("up", "down", 1, ["f", "a", "g", "b"])
DOWN = ("down", None, 1, ["b", "g", "f", "a"])
ARM = ("arm", "down", 0, ["a", "b", "f", "g"])
TOWNS = [UP, DOWN, ARM]
THINGS = [("b", "up"), ("a", "arm")]


def sample():
    """A piece of three towns, two own things, two foreign things and two mouths."""
    return Piece(TOWNS, THINGS, mouths=["up", "arm"], foreign=["g", "f"])


def lonely():
    """A piece without things and mouths."""
    return Piece([("t", None, 3, [])], [])


def piece_of(foreign, mouths):
    """A piece of one town with so many foreign things and mouths."""
    names = [f"f{at}" for at in range(foreign)]
    return Piece([("t", None, 1, names)], [], mouths=["t"] * mouths, foreign=names)


def random_piece(seed):
    chance = random.Random(seed)
    towns = [f"t{at}" for at in range(chance.randint(1, 4))]
    own = [f"o{at}" for at in range(chance.randint(0, 3))]
    foreign = [f"f{at}" for at in range(chance.randint(0, 3))]
    chance.shuffle(towns)
    rows = []
    for at, town in enumerate(towns):
        after = chance.choice(towns[:at]) if at else None
        rows.append((town, after, chance.choice([0, 1, 1, 2]), chance.sample(own + foreign, len(own + foreign))))
    return Piece(rows, [(thing, chance.choice(towns)) for thing in own],
                 mouths=[chance.choice(towns) for _ in range(chance.randint(0, 3))], foreign=foreign)


PIECES = [sample(), lonely()] + [random_piece(seed) for seed in range(25)]


def all_inflows(piece):
    """All inflows in inflow order, by the words of [55]."""
    choices = [[None] + list(range(len(piece.mouths))) for _ in piece.foreign]
    made = [[(thing, mouth) for thing, mouth in zip(piece.foreign, chosen) if mouth is not None]
            for chosen in itertools.product(*choices)]
    return sorted(made, key=lambda inflow: (len(inflow), inflow))


class Properties(unittest.TestCase):

    def test_names(self):
        piece = sample()
        same(self, piece.towns, ["arm", "down", "up"])
        same(self, piece.things, ["a", "b"])
        same(self, piece.foreign, ["f", "g"])
        same(self, piece.mouths, ["up", "arm"])
        same(self, piece.outlet, "down")
        same(self, Piece(TOWNS, THINGS, mouths=("up", "arm", "up"), foreign=("f", "g")).mouths, ["up", "arm", "up"])
        same(self, [lonely().towns, lonely().things, lonely().foreign, lonely().mouths], [["t"], [], [], []])
        same(self, lonely().outlet, "t")

    def test_rows(self):
        same(self, sample().town_rows(), [ARM, DOWN, UP])
        same(self, sample().thing_rows(), [("a", "arm"), ("b", "up")])
        tuples = Piece(tuple((name, after, room, tuple(liking)) for name, after, room, liking in TOWNS),
                       tuple(THINGS), mouths=("up", "arm"), foreign=("f", "g"))
        same(self, tuples.town_rows(), [ARM, DOWN, UP])
        self.assertEqual(tuples, sample())

    def test_copies(self):
        towns = [("t", None, 1, ["f", "a"])]
        things, mouths, foreign = [("a", "t")], ["t"], ["f"]
        piece = Piece(towns, things, mouths=mouths, foreign=foreign)
        before = copy.deepcopy([towns, things, mouths, foreign])
        expected = copy.deepcopy(before)
        same(self, [piece.town_rows(), piece.thing_rows(), piece.mouths, piece.foreign], expected)
        spoil(towns)
        things.clear()
        mouths.clear()
        foreign.clear()
        same(self, [piece.town_rows(), piece.thing_rows(), piece.mouths, piece.foreign], expected)
        for told in (piece.town_rows(), piece.thing_rows(), piece.mouths, piece.foreign, piece.towns, piece.things):
            spoil(told)
        same(self, [piece.town_rows(), piece.thing_rows(), piece.mouths, piece.foreign], expected)
        same(self, [piece.towns, piece.things], [["t"], ["a"]])
        self.assertEqual(len({id(item) for item in lists_in([sample().town_rows()])}), 5)


class Equal(unittest.TestCase):

    def test_the_same(self):
        for towns in itertools.permutations(TOWNS):
            self.assertTrue(Piece(towns, THINGS[::-1], mouths=("up", "arm"), foreign=("f", "g")) == sample())
        self.assertTrue(lonely() == lonely())

    def test_others(self):
        others = [
            Piece([("up", "down", 2, UP[3]), DOWN, ARM], THINGS, mouths=["up", "arm"], foreign=["g", "f"]),
            Piece([("up", "arm", 1, UP[3]), DOWN, ARM], THINGS, mouths=["up", "arm"], foreign=["g", "f"]),
            Piece([("up", "down", 1, ["a", "f", "g", "b"]), DOWN, ARM], THINGS, mouths=["up", "arm"],
                  foreign=["g", "f"]),
            Piece(TOWNS, [("b", "up"), ("a", "up")], mouths=["up", "arm"], foreign=["g", "f"]),
            Piece(TOWNS, THINGS, mouths=["arm", "up"], foreign=["g", "f"]),
            Piece(TOWNS, THINGS, mouths=["up"], foreign=["g", "f"]),
            Piece(TOWNS, THINGS, mouths=["up", "arm", "arm"], foreign=["g", "f"]),
            Piece(TOWNS, THINGS + [("f", "up")], mouths=["up", "arm"], foreign=["g"]),
            lonely()]
        for other in others:
            self.assertFalse(sample() == other)
            self.assertFalse(other == sample())

    def test_values_that_are_no_pieces(self):
        for other in (None, 0, "t", [], (), River([("t", None, 3, [])], []), lonely().town_rows()):
            self.assertIs(lonely() == other, False)


class Wrong(unittest.TestCase):
    """Each check alone, and ahead of all that come after it."""

    def refuses(self, error, attributes, towns, things, mouths=(), foreign=()):
        before = copy.deepcopy([towns, things, mouths, foreign])
        raises(self, error, attributes, Piece, towns, things, mouths=mouths, foreign=foreign)
        raises(self, error, attributes, Piece, tuple(towns), tuple(things), mouths=tuple(mouths),
               foreign=tuple(foreign))
        self.assertEqual(before, [towns, things, mouths, foreign])

    def test_counts_of_towns(self):
        late = [("A", "A")] * 11
        self.refuses(BadCount, {"what": "towns", "many": 0}, [], [])
        self.refuses(BadCount, {"what": "towns", "many": 0}, [], late, ["x"] * 4, ["B"])
        towns = [(f"t{at}", None if at == 0 else "t0", 0, []) for at in range(9)]
        self.refuses(BadCount, {"what": "towns", "many": 9}, towns, [])
        self.refuses(BadCount, {"what": "towns", "many": 9}, [("A", "x", 100, ["q"])] * 9, late, ["x"] * 4, ["B"])
        self.assertEqual(len(Piece(towns[:8], []).towns), 8)

    def test_counts_of_things(self):
        wrong = [("A", "x", 100, ["q"]), ("A", "x", 100, ["q"])]
        self.refuses(BadCount, {"what": "things", "many": 11}, wrong, [("a", "x")] * 11)
        self.refuses(BadCount, {"what": "things", "many": 11}, wrong, [], ["x"] * 4, ["a"] * 11)
        self.refuses(BadCount, {"what": "things", "many": 13}, wrong, [("A", "x")] * 6, ["x"] * 4, ["A"] * 7)
        names = [f"f{at}" for at in range(10)]
        self.assertEqual(Piece([("t", None, 0, names)], [(names[0], "t")], foreign=names[1:]).foreign, names[1:])
        self.assertEqual(Piece([("t", None, 0, names)], [], foreign=names).foreign, names)

    def test_names_of_towns(self):
        rest = ([("A", "x"), ("A", "x")], ["x"] * 4, ["A"])
        for name in ("", "A", "sea", "it", "9a", "a" * 9, "a\n"):
            self.refuses(BadName, {"name": name}, [UP, (name, "x", 100, []), UP], *rest)
        self.refuses(DuplicateName, {"name": "up"}, [UP, DOWN, UP, ("A", "x", 100, [])], *rest)

    def test_names_of_things(self):
        towns = [("t", "x", 100, ["q"])]
        for name in ("", "A", "sea", "it", "9a", "a" * 9, "a\n"):
            self.refuses(BadName, {"name": name}, towns, [("a", "x"), (name, "x"), ("a", "x")], ["x"] * 4, ["B"])
            self.refuses(BadName, {"name": name}, towns, [("a", "x")], ["x"] * 4, ["b", name, "b"])
        self.refuses(DuplicateName, {"name": "a"}, towns, [("a", "x"), ("a", "x"), ("A", "x")], ["x"] * 4, ["B"])
        self.refuses(DuplicateName, {"name": "a"}, towns, [("a", "x")], ["x"] * 4, ["b", "a", "B"])
        self.refuses(DuplicateName, {"name": "b"}, towns, [("a", "x")], ["x"] * 4, ["b", "b", "B"])
        # Towns and things are named separately.
        self.assertEqual(Piece([("t", None, 0, ["t", "u"])], [("t", "t")], foreign=["u"]).things, ["t"])

    def test_rows_of_towns(self):
        rest = ([("a", "x")], ["x"] * 4, ["f"])
        for after in ("x", "sea", "a", "f", ""):
            self.refuses(UnknownTown, {"town": after}, [("t", after, 100, ["q"]), ("u", "y", 100, [])], *rest)
        for room in (-1, 100, True, False, 10 ** 59):
            self.refuses(BadRoom, {"town": "t"}, [("t", "t", room, ["q"]), ("u", "y", 100, [])], *rest)
        for liking in ([], ["a"], ["f"], ["a", "f", "f"], ["a", "q"], ["a", "f", "q"], ("a",)):
            self.refuses(BadLiking, {"town": "t"}, [("t", "t", 0, liking), ("u", "y", 100, [])], *rest)

    def test_springs(self):
        towns = [("t", "t", 0, ["a", "b", "f"])]
        for spring in ("x", "sea", "a", "f", ""):
            self.refuses(UnknownTown, {"town": spring}, towns, [("a", "t"), ("b", spring)], ["x"] * 4, ["f"])

    def test_rings(self):
        self.refuses(Ring, {"town": "t"}, [("t", "t", 0, [])], [], ["x"] * 4)
        towns = [("u", "v", 0, []), ("v", "u", 0, []), ("b", "u", 0, []), ("c", None, 0, []), ("d", None, 0, [])]
        self.refuses(Ring, {"town": "b"}, towns, [], ["x"] * 4)

    def test_outlets(self):
        self.refuses(BadOutlet, {}, [("t", None, 0, []), ("u", None, 0, [])], [], ["x"] * 4)
        self.refuses(BadOutlet, {}, [("t", None, 0, []), ("u", "t", 0, []), ("v", None, 0, [])], [])

    def test_mouths(self):
        self.refuses(BadCount, {"what": "mouths", "many": 4}, TOWNS, THINGS, ["x", "up", "up", "up"], ["f", "g"])
        for mouth in ("x", "a", "f", "sea", ""):
            self.refuses(UnknownTown, {"town": mouth}, TOWNS, THINGS, ["up", mouth, "y"], ["f", "g"])


class Filled(unittest.TestCase):

    def test_answers(self):
        river = filled(sample(), [("g", 1), ("f", 0)])
        self.assertIsInstance(river, River)
        same(self, river.town_rows(), [ARM, DOWN, UP])
        same(self, river.thing_rows(), [("a", "arm"), ("b", "up"), ("f", "up"), ("g", "arm")])
        river = filled(piece=sample(), inflow=(("g", 0),))
        same(self, river.town_rows(), [
            ("arm", "down", 0, ["a", "b", "g"]), ("down", None, 1, ["b", "g", "a"]), ("up", "down", 1, ["a", "g", "b"])])
        same(self, river.thing_rows(), [("a", "arm"), ("b", "up"), ("g", "up")])
        same(self, filled(sample(), []).things, ["a", "b"])
        self.assertEqual(filled(lonely(), ()), River([("t", None, 3, [])], []))

    def test_the_check_of_the_inflow(self):
        for call in (filled, outflow):
            for kind in (list, tuple):
                for thing in ("x", "a", "b", "up", "", "A"):
                    raises(self, UnknownThing, {"thing": thing}, call, sample(), kind([("f", 0), (thing, 9), ("f", 9)]))
                raises(self, DuplicateName, {"name": "f"}, call, sample(), kind([("f", 1), ("f", True), ("x", 0)]))
                raises(self, DuplicateName, {"name": "f"}, call, sample(), kind([("f", 1), ("g", 0), ("f", 1)]))
                for mouth in (-1, 2, True, False, 10 ** 59):
                    raises(self, BadNumber, {"number": mouth}, call, sample(), kind([("g", 1), ("f", mouth), ("x", 0)]))
            for mouth in (0, -1, False):
                raises(self, BadNumber, {"number": mouth}, call, piece_of(1, 0), [("f0", mouth)])

    def test_nothing_is_changed(self):
        inflow = [("g", 1), ("f", 0)]
        filled(sample(), inflow)
        self.assertEqual(inflow, [("g", 1), ("f", 0)])


class Outflow(unittest.TestCase):

    def test_answers(self):
        same(self, outflow(sample(), []), [])
        same(self, outflow(sample(), [("f", 0)]), ["a"])
        same(self, outflow(sample(), (("g", 0), ("f", 0))), ["a", "g"])
        same(self, outflow(piece=piece_of(3, 2), inflow=[("f2", 1), ("f0", 0), ("f1", 1)]), ["f1", "f2"])
        same(self, outflow(lonely(), []), [])

    def test_all_inflows(self):
        for piece in PIECES:
            for inflow in all_inflows(piece)[:40]:
                model = Model(filled(piece, inflow[::-1]))
                places = model.start()
                while model.free(places):
                    places, _ = model.land(places, model.free(places)[-1][0])
                same(self, outflow(piece, inflow[::-1]),
                     [thing for thing in model.things if places[thing] == ("sea", None)])

    def test_nothing_is_changed(self):
        fresh(self, outflow, sample(), [("g", 1), ("f", 0)])


class Inflows(unittest.TestCase):

    def test_inflow_order(self):
        same(self, inflows(sample()), [
            [], [("f", 0)], [("f", 1)], [("g", 0)], [("g", 1)], [("f", 0), ("g", 0)], [("f", 0), ("g", 1)],
            [("f", 1), ("g", 0)], [("f", 1), ("g", 1)]])
        same(self, inflows(piece=lonely()), [[]])
        same(self, inflows(piece_of(10, 0)), [[]])
        same(self, inflows(piece_of(0, 3)), [[]])
        for piece in PIECES:
            same(self, inflows(piece), all_inflows(piece))
            same(self, outflow_table(piece), [(inflow, outflow(piece, inflow)) for inflow in all_inflows(piece)])
        same(self, outflow_table(piece=lonely()), [([], [])])

    def test_the_limit(self):
        for foreign, mouths in ((8, 1), (4, 3), (5, 2)):
            many = (mouths + 1) ** foreign
            self.assertEqual(len(inflows(piece_of(foreign, mouths))), many)
            self.assertEqual(len(outflow_table(piece_of(foreign, mouths))), many)
            same(self, inflows(piece_of(foreign, mouths)), all_inflows(piece_of(foreign, mouths)))
        for foreign, mouths in ((9, 1), (5, 3), (6, 2), (10, 1), (10, 3)):
            for call in (inflows, outflow_table):
                raises(self, TooMany, {"limit": 256}, call, piece_of(foreign, mouths))
        # A single inflow has no limit.
        same(self, outflow(piece_of(10, 3), [("f3", 2), ("f1", 0)]), ["f3"])

    def test_nothing_is_changed(self):
        fresh(self, inflows, sample())
        fresh(self, outflow_table, sample())


if __name__ == "__main__":
    unittest.main()
