"""Alike pieces: alike.py, [58] to [61]."""

import copy
import itertools
import random
import unittest

from riverkeeps.alike import (
    alike, are_comparable, is_simple, is_telling, simply_alike, smaller, telling_inflow, telling_rivers)
from riverkeeps.ends import end_places
from riverkeeps.errors import NotComparable, TooMany
from riverkeeps.gluing import put_in
from riverkeeps.pieces import Piece, filled, inflows, outflow
from riverkeeps.rivers import River
from tests.helpers import fresh, raises, same, spoil
from tests.model import Model
from tests.test_pieces import PIECES, lonely, piece_of, random_piece, sample

MORE = [random_piece(seed) for seed in range(100, 160)]


def varied(piece, seed):
    """A comparable piece with other towns, rooms, likings and springs."""
    chance = random.Random(seed)
    things = piece.things + piece.foreign
    towns = [f"v{at}" for at in range(chance.randint(1, 3))]
    rows = [(town, chance.choice(towns[:at]) if at else None, chance.choice([0, 1, 1, 2]),
             chance.sample(things, len(things))) for at, town in enumerate(towns)]
    return Piece(rows, [(thing, chance.choice(towns)) for thing in piece.things],
                 mouths=[chance.choice(towns) for _ in piece.mouths], foreign=piece.foreign)


def with_rows(piece, rows):
    """The piece with other town rows."""
    return Piece(rows, piece.thing_rows(), mouths=piece.mouths, foreign=piece.foreign)


def told_outflow(piece, inflow):
    """What comes to the sea by the rule of landings alone."""
    model = Model(filled(piece, inflow))
    places = model.start()
    while model.free(places):
        places, _ = model.land(places, model.free(places)[0][0])
    return [thing for thing in model.things if places[thing] == ("sea", None)]


def one_town(room, liking, name="t", mouths=1):
    """A simple piece."""
    return Piece([(name, None, room, liking)], [], mouths=[name] * mouths, foreign=sorted(liking))


PAIRS = [(piece, varied(piece, seed)) for seed, piece in enumerate(PIECES + MORE)]
PAIRS += [(piece, smaller(piece)) for piece in PIECES + MORE] + [(piece, piece) for piece in PIECES]
# Pieces that are not comparable with the sample, each for one reason.
STRANGERS = [
    Piece([("t", None, 1, ["a", "b", "f", "g"])], [("a", "t"), ("b", "t")], mouths=["t"], foreign=["f", "g"]),
    Piece([("t", None, 1, ["a", "b", "f", "g"])], [("a", "t"), ("b", "t")], mouths=["t"] * 3, foreign=["f", "g"]),
    Piece([("t", None, 1, ["a", "b", "f", "g"])], [("a", "t")], mouths=["t"] * 2, foreign=["b", "f", "g"]),
    Piece([("t", None, 1, ["a", "b", "f"])], [("a", "t"), ("b", "t")], mouths=["t"] * 2, foreign=["f"]),
    Piece([("t", None, 1, ["a", "f", "g"])], [("a", "t")], mouths=["t"] * 2, foreign=["f", "g"]),
    Piece([("t", None, 1, ["a", "b", "f", "h"])], [("a", "t"), ("b", "t")], mouths=["t"] * 2, foreign=["f", "h"])]


class Comparable(unittest.TestCase):

    def test_answers(self):
        for one, other in PAIRS:
            self.assertIs(are_comparable(one, other), True)
            self.assertIs(are_comparable(other, one), True)
        for other in STRANGERS:
            self.assertIs(are_comparable(sample(), other), False)
            self.assertIs(are_comparable(one=other, other=sample()), False)
        # Too many inflows are no matter here.
        self.assertIs(are_comparable(piece_of(10, 3), piece_of(10, 3)), True)
        self.assertIs(are_comparable(piece_of(10, 3), piece_of(10, 2)), False)

    def test_pieces_that_are_not_comparable(self):
        for other in STRANGERS:
            for call in (alike, telling_inflow, telling_rivers, simply_alike):
                raises(self, NotComparable, {}, call, sample(), other)
                raises(self, NotComparable, {}, call, other, sample())
            for inflow in ([], [("f", 0)], [("x", True)], None):
                raises(self, NotComparable, {}, is_telling, sample(), other, inflow)

    def test_it_comes_ahead_of_too_many_inflows(self):
        for call in (alike, telling_inflow, telling_rivers):
            raises(self, NotComparable, {}, call, piece_of(10, 3), piece_of(10, 2))
            raises(self, NotComparable, {}, call, piece_of(9, 3), piece_of(10, 3))


class Telling(unittest.TestCase):

    def test_an_example(self):
        one = one_town(1, ["a", "b", "c"])
        same(self, telling_inflow(one, one_town(1, ["b", "a", "c"])), [("a", 0), ("b", 0)])
        same(self, telling_inflow(one, one_town(1, ["a", "c", "b"], "u")), [("b", 0), ("c", 0)])
        same(self, telling_inflow(one=one, other=one_town(2, ["a", "b", "c"])), [("a", 0), ("b", 0)])
        same(self, telling_inflow(one, one_town(0, ["a", "b", "c"])), [("a", 0)])
        self.assertIsNone(telling_inflow(one, one_town(1, ["a", "b", "c"], "u")))

    def test_all_inflows_of_small_pieces(self):
        told, not_told = 0, 0
        for one, other in PAIRS:
            expected = None
            for inflow in inflows(one):
                if expected is None and told_outflow(one, inflow) != told_outflow(other, inflow):
                    expected = inflow
            same(self, telling_inflow(one, other), expected)
            self.assertIs(alike(one, other), expected is None)
            if expected is None:
                not_told += 1
                self.assertIsNone(telling_rivers(one, other))
                continue
            told += 1
            rooms = [sum(row[2] for row in piece.town_rows()) for piece in (one, other)]
            self.assertLessEqual(len(expected), min(rooms) + 1)
            rivers = telling_rivers(one=one, other=other)
            self.assertIsInstance(rivers, tuple)
            self.assertTrue(rivers == (filled(one, expected), filled(other, expected)))
        self.assertGreater(told, 20)
        self.assertGreater(not_told, 60)

    def test_the_limit(self):
        for call, answer in ((alike, True), (telling_inflow, None), (telling_rivers, None)):
            for foreign, mouths in ((8, 1), (4, 3), (10, 0)):
                self.assertEqual(call(piece_of(foreign, mouths), piece_of(foreign, mouths)), answer)
            for foreign, mouths in ((9, 1), (5, 3), (6, 2)):
                # Also for equal pieces, and for those that an early inflow would tell apart.
                piece = piece_of(foreign, mouths)
                raises(self, TooMany, {"limit": 256}, call, piece, piece)
                raises(self, TooMany, {"limit": 256}, call, piece, piece_of(foreign, mouths))
                other = with_rows(piece, [("t", None, 0, piece.foreign)])
                raises(self, TooMany, {"limit": 256}, call, piece, other)
        piece = piece_of(8, 1)
        same(self, telling_inflow(piece, with_rows(piece, [("t", None, 7, piece.foreign)])), [("f0", 0), ("f1", 0)])
        # All things must come before a room of 8 can be told from one of 7.
        same(self, telling_inflow(*[with_rows(piece, [("t", None, room, piece.foreign)]) for room in (7, 8)]),
             [(f"f{at}", 0) for at in range(8)])

    def test_nothing_is_changed(self):
        fresh(self, telling_inflow, one_town(1, ["a", "b"]), one_town(1, ["b", "a"]))
        fresh(self, alike, sample(), sample())

    def test_alike_pieces_can_be_put_in_each_others_place(self):
        river = River([("up", "low", 1, ["a", "b", "f", "g"]), ("low", "end", 1, ["g", "f", "a", "b"]),
                       ("arm", "low", 1, ["a", "f", "b", "g"]), ("end", None, 1, ["b", "g", "a", "f"])],
                      [("a", "low"), ("b", "low"), ("f", "up"), ("g", "arm")])
        chance = random.Random(5)
        found = {True: 0, False: 0}
        for _ in range(200):
            liking = chance.sample(["a", "b", "f", "g"], 4)
            rows = [("p", "q", chance.choice([0, 0, 1]), chance.sample(liking, 4)),
                    ("q", None, chance.choice([0, 1, 2, 4]), liking)]
            pieces = [Piece(rows, [("a", "q"), ("b", "p")], mouths=["q", "p"], foreign=["g", "f"])]
            pieces.append(smaller(pieces[0]) if chance.random() < 0.5 else varied(pieces[0], chance.random()))
            ends = [end_places(put_in(river, ["low"], piece)) for piece in pieces]
            outside = [[row for row in end if row[2] in ("up", "arm", "end", None)] for end in ends]
            found[alike(*pieces)] += 1
            if alike(*pieces):
                self.assertEqual(outside[0], outside[1])
        self.assertGreater(min(found.values()), 40)


class IsTelling(unittest.TestCase):

    def test_inflows_in_any_order(self):
        told = 0
        for one, other in PAIRS:
            for inflow in inflows(one)[:30]:
                tells = told_outflow(one, inflow) != told_outflow(other, inflow)
                told += tells
                for order in list(itertools.permutations(inflow))[:6]:
                    self.assertIs(is_telling(one, other, list(order)), tells)
                    self.assertIs(is_telling(one, other, order), tells)
        self.assertGreater(told, 50)

    def test_it_need_not_be_the_first_one(self):
        one, other = one_town(1, ["a", "b", "c"]), one_town(1, ["b", "a", "c"])
        self.assertIs(is_telling(one, other, [("c", 0), ("b", 0), ("a", 0)]), True)
        self.assertIs(is_telling(one=one, other=other, inflow=(("b", 0), ("a", 0))), True)
        self.assertIs(is_telling(one, other, [("c", 0), ("b", 0)]), False)
        self.assertIs(is_telling(one, other, []), False)

    def test_lists_that_are_no_inflow(self):
        one, other = sample(), with_rows(sample(), [(row[0], row[1], 0, row[3]) for row in sample().town_rows()])
        self.assertIs(is_telling(one, other, [("f", 0)]), True)
        for pair in (("a", 0), ("b", 1), ("x", 0), ("up", 0), ("", 0), ("f", 1), ("f", 0), ("g", 2), ("g", -1),
                     ("g", True), ("g", False), ("g", 10 ** 59)):
            self.assertIs(is_telling(one, other, [("f", 0), pair]), False)
            self.assertIs(is_telling(one, other, (pair, ("f", 0))), False)
        self.assertIs(is_telling(one, other, [("f", False)]), False)

    def test_other_kinds_of_values(self):
        one, other = one_town(1, ["a", "b"]), one_town(1, ["b", "a"])
        for inflow in (None, 0, True, "ab", {"a": 0}, [None], ["ab"], [("a", 0), "b0"], [("a", "t"), ("b", "t")],
                       [("a", 0), ("b", None)], [("a", 0), ("b", 0, 0)], [("a", 0), ("b",)], [(0, 0), ("b", 0)],
                       [(["a"], 0)], [[("a", 0), ("b", 0)]], [("a", 0), ["b", 0]], [("a", [0])], object()):
            self.assertIs(is_telling(one, other, inflow), False)

    def test_there_is_no_limit(self):
        names = [f"f{at}" for at in range(10)]
        one, other = (Piece([("t", None, room, names)], [], mouths=["t"] * 3, foreign=names) for room in (1, 2))
        self.assertIs(is_telling(one, other, [("f3", 2), ("f1", 0)]), True)
        self.assertIs(is_telling(one, other, [("f3", 2)]), False)

    def test_nothing_is_changed(self):
        fresh(self, is_telling, one_town(1, ["a", "b"]), one_town(1, ["b", "a"]), [("b", 0), ("a", 0)])


def smaller_by_words(piece):
    """The smaller form, step by step by the words of [60]."""
    rows = {name: [after, room, liking] for name, after, room, liking in piece.town_rows()}
    springs, mouths = dict(piece.thing_rows()), piece.mouths

    def down(town):
        return [town] + (down(rows[town][0]) if rows[town][0] is not None else [])
    arrivals = {}
    for town in rows:
        arrivals[town] = [thing for thing in springs if town in down(springs[thing])]
        if any(town in down(mouth) for mouth in mouths):
            arrivals[town] += piece.foreign
    for town in rows:
        rows[town][1] = min(rows[town][1], len(arrivals[town]))
    while True:
        empty = [town for town in rows if rows[town][1] == 0 and rows[town][0] is not None]
        if not empty:
            break
        after = rows.pop(empty[-1])[0]
        for row in rows.values():
            row[0] = after if row[0] == empty[-1] else row[0]
        springs = {thing: after if spring == empty[-1] else spring for thing, spring in springs.items()}
        mouths = [after if mouth == empty[-1] else mouth for mouth in mouths]
    for town, row in rows.items():
        comers = [thing for thing in row[2] if thing in arrivals[town]]
        others = [thing for thing in row[2] if thing not in arrivals[town]]
        row[2] = sorted(row[2]) if row[1] == 0 else sorted(comers[:row[1]]) + comers[row[1]:] + sorted(others)
    return Piece([(name, *row) for name, row in rows.items()], list(springs.items()), mouths=mouths,
                 foreign=piece.foreign)


class Smaller(unittest.TestCase):

    def test_rooms_are_lowered(self):
        piece = Piece([("up", "low", 9, ["f", "a", "b"]), ("low", None, 2, ["b", "f", "a"])],
                      [("a", "up"), ("b", "low")], mouths=["low"], foreign=["f"])
        # Only a comes to the upper town: f enters behind it.
        same(self, smaller(piece).town_rows(), [("low", None, 2, ["b", "f", "a"]), ("up", "low", 1, ["a", "b", "f"])])
        same(self, smaller(piece=lonely()).town_rows(), [("t", None, 0, [])])

    def test_towns_are_taken_out(self):
        piece = Piece([("top", "mid", 0, ["f", "a", "b"]), ("mid", "low", 0, ["f", "b", "a"]),
                       ("low", "out", 1, ["b", "a", "f"]), ("out", None, 0, ["b", "f", "a"]),
                       ("dry", "top", 5, ["b", "f", "a"])],
                      [("a", "top"), ("b", "mid")], mouths=["mid", "out", "low"], foreign=["f"])
        made = smaller(piece)
        self.assertIsInstance(made, Piece)
        # The dry town has no arrivals, so its room is lowered to 0.
        same(self, made.town_rows(), [("low", "out", 1, ["b", "a", "f"]), ("out", None, 0, ["a", "b", "f"])])
        same(self, made.thing_rows(), [("a", "low"), ("b", "low")])
        same(self, [made.mouths, made.foreign], [["low", "out", "low"], ["f"]])

    def test_the_outlet_is_never_taken_out(self):
        piece = Piece([("out", None, 0, ["f", "a"]), ("up", "out", 0, ["f", "a"])], [("a", "up")], mouths=["up"],
                      foreign=["f"])
        same(self, smaller(piece).town_rows(), [("out", None, 0, ["a", "f"])])
        same(self, [smaller(piece).thing_rows(), smaller(piece).mouths], [[("a", "out")], ["out"]])

    def test_likings(self):
        # The two first arrivals ascend, the others keep their order, what never arrives ascends.
        piece = Piece([("low", None, 2, ["z", "d", "y", "c", "b", "a", "x"]), ("up", "low", 0, list("xyzabcd"))],
                      [("z", "low"), ("d", "up"), ("c", "low"), ("b", "up"), ("a", "low")], foreign=["x", "y"])
        same(self, smaller(piece).town_rows(), [("low", None, 2, ["d", "z", "c", "b", "a", "x", "y"])])
        # With a mouth, all foreign things are arrivals.
        piece = Piece(piece.town_rows(), piece.thing_rows(), mouths=["up"], foreign=["x", "y"])
        same(self, smaller(piece).town_rows(), [("low", None, 2, ["d", "z", "y", "c", "b", "a", "x"])])

    def test_it_is_made_by_the_words(self):
        for piece in PIECES + MORE:
            same(self, smaller(piece).town_rows(), smaller_by_words(piece).town_rows())
            self.assertTrue(smaller(piece) == smaller_by_words(piece))
            self.assertTrue(are_comparable(piece, smaller(piece)))

    def test_it_is_alike_with_the_piece(self):
        changed = 0
        for piece in PIECES + MORE:
            made = smaller(piece)
            changed += not made == piece
            self.assertIs(alike(piece, made), True)
            for inflow in inflows(piece)[:40]:
                self.assertEqual(outflow(made, inflow), told_outflow(piece, inflow))
        self.assertGreater(changed, 50)

    def test_the_smaller_form_of_a_smaller_form(self):
        for piece in PIECES + MORE:
            self.assertTrue(smaller(smaller(piece)) == smaller(piece))

    def test_there_is_no_limit(self):
        self.assertTrue(smaller(piece_of(10, 3)) == piece_of(10, 3))

    def test_nothing_is_changed(self):
        piece = sample()
        spoil(smaller(piece).town_rows())
        self.assertTrue(piece == sample())


class Simple(unittest.TestCase):

    def test_is_simple(self):
        self.assertIs(is_simple(piece=one_town(3, ["a", "b"])), True)
        self.assertIs(is_simple(one_town(0, [])), True)
        for piece in (lonely(), sample(), piece_of(3, 0), piece_of(3, 2),
                      Piece([("t", None, 1, ["a"])], [("a", "t")], mouths=["t"]),
                      Piece([("t", None, 1, ["a"]), ("u", "t", 1, ["a"])], [], mouths=["t"], foreign=["a"])):
            self.assertIs(is_simple(piece), False)

    def test_against_alike(self):
        likings = [list(order) for order in itertools.permutations("abc")]
        found = {True: 0, False: 0}
        for room, other_room in itertools.product(range(5), repeat=2):
            for liking in likings:
                one, other = one_town(room, ["a", "b", "c"]), one_town(other_room, liking, "u")
                found[alike(one, other)] += 1
                self.assertIs(simply_alike(one=one, other=other), alike(one, other))
        self.assertGreater(found[True], 20)
        # Without things every room is the same, and with room 0 every liking is.
        self.assertIs(simply_alike(one_town(0, []), one_town(7, [], "u")), True)
        self.assertIs(simply_alike(one_town(0, ["a", "b"]), one_town(0, ["b", "a"])), True)

    def test_pieces_that_are_not_simple(self):
        one = piece_of(3, 1)
        rows = [("t", "u", 1, one.foreign), ("u", None, 1, one.foreign)]
        other = Piece(rows, [], mouths=["t"], foreign=one.foreign)
        self.assertTrue(are_comparable(one, other))
        raises(self, NotComparable, {}, simply_alike, one, other)
        raises(self, NotComparable, {}, simply_alike, other, one)
        for piece in (other, sample(), lonely(), piece_of(3, 0), piece_of(3, 2)):
            raises(self, NotComparable, {}, simply_alike, piece, piece)
        # Simple pieces with other foreign things are not comparable either.
        raises(self, NotComparable, {}, simply_alike, one_town(1, ["a", "b"]), one_town(1, ["a", "c"]))
        raises(self, NotComparable, {}, simply_alike, one_town(0, []), one_town(0, ["a"]))

    def test_there_is_no_limit(self):
        one = piece_of(10, 1)
        other = with_rows(one, [("t", None, 1, one.foreign[:8] + ["f9", "f8"])])
        raises(self, TooMany, {"limit": 256}, alike, one, other)
        self.assertIs(simply_alike(one, other), False)
        self.assertIs(simply_alike(one, copy.deepcopy(one)), True)


if __name__ == "__main__":
    unittest.main()
