"""Gluing: gluing.py, [56] to [58] and [62]."""

import copy
import itertools
import random
import unittest

from riverkeeps.alike import are_comparable
from riverkeeps.ends import end_places, leaving
from riverkeeps.errors import BadCount, BadNumber, BadOutlet, DuplicateName, NotComparable, UnknownTown
from riverkeeps.gluing import cut_out, inflow_at_end, joined, put_in
from riverkeeps.pieces import Piece, filled, inflows, outflow
from riverkeeps.rivers import River
from tests.helpers import example, forked, fresh, raises, same, two_seas
from tests.model import small_rivers, subsets

RIVERS = small_rivers(25, least=2, most=14, most_towns=5) + [example(), two_seas(), forked()]
ARM, FORK, TAIL, TOP = forked().town_rows()


def star(feeders):
    """So many towns that lead to one, and one more behind that."""
    towns = [(f"f{at}", "mid", 0, ["a"]) for at in range(feeders)]
    return River(towns + [("mid", "low", 0, ["a"]), ("low", None, 0, ["a"])], [("a", "mid")])


def parts(river):
    """All lists of towns that tell a part of a small river, by the words of [56]."""
    found = []
    for towns in subsets(river.towns):
        outlets = [town for town in towns if river.after(town) not in towns]
        feeders = [town for town in river.towns if town not in towns and river.after(town) in towns]
        if len(outlets) == 1 and len(feeders) <= 3:
            found.append((towns, outlets[0], feeders))
    return found


class CutOut(unittest.TestCase):

    def test_several_mouths(self):
        piece = cut_out(forked(), ["fork", "tail"])
        self.assertIsInstance(piece, Piece)
        same(self, piece.town_rows(), [FORK, TAIL])
        same(self, piece.thing_rows(), [])
        same(self, piece.foreign, ["a", "b", "c", "d"])
        # The arm is mouth 0 and the top is mouth 1, both at the fork.
        same(self, piece.mouths, ["fork", "fork"])
        piece = cut_out(river=example(), towns=["mid", "hill"])
        same(self, piece.town_rows(), [("hill", "mid", 1, ["a", "b", "c"]), ("mid", None, 1, ["c", "a", "b"])])
        same(self, piece.thing_rows(), [("a", "hill"), ("b", "hill")])
        same(self, [piece.foreign, piece.mouths, piece.outlet], [["c"], ["mid"], "mid"])

    def test_mouths_at_different_towns(self):
        towns = [("b", "d", 0, []), ("a", "e", 0, []), ("c", "e", 0, []), ("d", "e", 0, []), ("e", None, 0, [])]
        same(self, cut_out(River(towns, []), ["e", "d"]).mouths, ["e", "d", "e"])

    def test_a_part_of_one_town(self):
        piece = cut_out(forked(), ["top"])
        same(self, piece.town_rows(), [("top", None) + TOP[2:]])
        same(self, piece.thing_rows(), [("a", "top"), ("b", "top")])
        same(self, [piece.foreign, piece.mouths], [["c", "d"], []])
        # Things of the tail's own springs are foreign to what is above it.
        river = River([("up", "low", 1, ["a", "b"]), ("low", None, 1, ["a", "b"])], [("a", "low"), ("b", "up")])
        same(self, cut_out(river, ["up"]).foreign, ["a"])
        same(self, cut_out(river, ("low",)).foreign, ["b"])
        same(self, cut_out(river, ("low",)).mouths, ["low"])

    def test_the_whole_river(self):
        piece = cut_out(forked(), ["tail", "fork", "top", "arm"])
        same(self, piece.town_rows(), forked().town_rows())
        same(self, piece.thing_rows(), forked().thing_rows())
        same(self, [piece.foreign, piece.mouths], [[], []])

    def test_the_order_of_the_towns_has_no_meaning(self):
        for river in (example(), forked()):
            for towns, _, _ in parts(river):
                for other in itertools.permutations(towns):
                    self.assertTrue(cut_out(river, other) == cut_out(river, towns))
                    same(self, inflow_at_end(river, list(other)), inflow_at_end(river, towns))

    def test_all_parts_of_small_rivers(self):
        for river in RIVERS:
            rows = {row[0]: row for row in river.town_rows()}
            for towns, outlet, feeders in parts(river):
                piece = cut_out(river, towns)
                same(self, piece.town_rows(), [
                    (town, None if town == outlet else rows[town][1], rows[town][2], rows[town][3]) for town in towns])
                same(self, piece.thing_rows(), [row for row in river.thing_rows() if row[1] in towns])
                same(self, piece.foreign, [thing for thing, spring in river.thing_rows() if spring not in towns])
                same(self, piece.mouths, [rows[feeder][1] for feeder in feeders])

    def test_nothing_is_changed(self):
        river, towns = forked(), ["tail", "fork"]
        piece = cut_out(river, towns)
        towns.append("top")
        self.assertTrue(river == forked())
        self.assertTrue(piece == cut_out(forked(), ["fork", "tail"]))


class Towns(unittest.TestCase):
    """The check of `towns` [56], of each function that has it."""

    def refuses(self, error, attributes, river, towns):
        # No piece is comparable with this one, and its towns are too many.
        strange = Piece([(f"s{at}", "s0" if at else None, 0, []) for at in range(8)], [])
        for kind in (list, tuple):
            raises(self, error, attributes, cut_out, river, kind(towns))
            raises(self, error, attributes, inflow_at_end, river, kind(towns))
            raises(self, error, attributes, put_in, river, kind(towns), strange)

    def test_unknown_towns(self):
        for town in ("x", "a", "sea", ""):
            self.refuses(UnknownTown, {"town": town}, forked(), ["top", "arm", town, "top", "y"])
            self.refuses(UnknownTown, {"town": town}, forked(), [town])

    def test_duplicates(self):
        self.refuses(DuplicateName, {"name": "arm"}, forked(), ["top", "arm", "arm", "top", "x"])
        self.refuses(DuplicateName, {"name": "top"}, forked(), ["top", "top"])

    def test_the_empty_list(self):
        self.refuses(BadCount, {"what": "towns", "many": 0}, forked(), [])

    def test_outlets(self):
        for towns in (["top", "arm"], ["top", "tail"], ["arm", "top", "tail"]):
            self.refuses(BadOutlet, {}, forked(), towns)
        self.refuses(BadOutlet, {}, two_seas(), ["x1", "y"])
        self.refuses(BadOutlet, {}, two_seas(), ["x1", "x2", "y"])
        # Two outlets come ahead of too many outer feeders.
        river = River(star(4).town_rows() + [("sole", None, 0, ["a"])], [("a", "mid")])
        self.refuses(BadOutlet, {}, river, ["mid", "sole"])

    def test_outer_feeders(self):
        self.refuses(BadCount, {"what": "mouths", "many": 4}, star(4), ["mid"])
        self.refuses(BadCount, {"what": "mouths", "many": 5}, star(6), ["low", "f3", "mid"])
        self.assertEqual(cut_out(star(3), ["mid"]).mouths, ["mid"] * 3)
        self.assertEqual(cut_out(star(4), ["mid", "f0", "low"]).mouths, ["mid"] * 3)


class InflowAtEnd(unittest.TestCase):

    def test_answers(self):
        same(self, inflow_at_end(example(), ["mid"]), [("b", 0), ("c", 1)])
        same(self, inflow_at_end(example(), ["mid", "hill"]), [("c", 0)])
        same(self, inflow_at_end(example(), ["side"]), [])
        same(self, inflow_at_end(river=example(), towns=("hill", "mid", "side")), [])
        same(self, inflow_at_end(forked(), ["tail", "fork"]), [("a", 1), ("d", 0)])

    def test_the_part_filled_with_it_ends_as_the_river_does(self):
        for river in RIVERS:
            ends = {thing: (kind, town) for thing, kind, town in end_places(river)}
            for towns, outlet, feeders in parts(river):
                inflow = inflow_at_end(river, towns)
                same(self, inflow, sorted((thing, mouth) for mouth, feeder in enumerate(feeders)
                                          for thing in leaving(river, feeder)))
                piece = cut_out(river, towns)
                for thing, kind, town in end_places(filled(piece, inflow)):
                    if kind == "kept":
                        self.assertEqual(ends[thing], (kind, town))
                    else:
                        self.assertNotIn(ends[thing][1], towns)
                same(self, outflow(piece, inflow), sorted(leaving(river, outlet)))

    def test_nothing_is_changed(self):
        fresh(self, inflow_at_end, forked(), ["tail", "fork"])


class PutIn(unittest.TestCase):

    def test_the_own_piece_leads_back(self):
        for river in RIVERS:
            for towns, _, _ in parts(river):
                for listed in (towns[::-1], tuple(towns)):
                    made = put_in(river, listed, cut_out(river, towns))
                    self.assertTrue(made == river)

    def test_another_piece(self):
        piece = Piece([("p", "q", 2, ["d", "c", "b", "a"]), ("q", None, 0, ["a", "b", "c", "d"]),
                       ("fork", "p", 9, ["b", "a", "d", "c"])], [], mouths=["q", "fork"], foreign=["a", "b", "c", "d"])
        made = put_in(river=forked(), towns=["fork"], piece=piece)
        same(self, made.town_rows(), [
            ("arm", "q") + ARM[2:], ("fork", "p", 9, ["b", "a", "d", "c"]), ("p", "q", 2, ["d", "c", "b", "a"]),
            ("q", "tail", 0, ["a", "b", "c", "d"]), TAIL, ("top", "fork") + TOP[2:]])
        same(self, made.thing_rows(), forked().thing_rows())

    def test_own_things_get_their_springs_in_the_piece(self):
        piece = Piece([("one", "two", 0, ["c", "a", "b"]), ("two", None, 5, ["b", "a", "c"])],
                      [("a", "two"), ("b", "one")], mouths=["one"], foreign=["c"])
        made = put_in(example(), ["mid", "hill"], piece)
        same(self, made.town_rows(), [
            ("one", "two", 0, ["c", "a", "b"]), ("side", "one", 0, ["b", "c", "a"]),
            ("two", None, 5, ["b", "a", "c"])])
        same(self, made.thing_rows(), [("a", "two"), ("b", "one"), ("c", "side")])
        # The whole river, and a part without outer feeders.
        whole = Piece([("t", None, 1, ["a", "b", "c"])], [("a", "t"), ("b", "t"), ("c", "t")])
        same(self, put_in(example(), ["mid", "hill", "side"], whole).town_rows(), [("t", None, 1, ["a", "b", "c"])])
        side = Piece([("side", None, 3, ["a", "c", "b"])], [("c", "side")], foreign=["b", "a"])
        same(self, put_in(example(), ("side",), side).town_rows(), [
            ("hill", "mid", 1, ["a", "b", "c"]), ("mid", None, 1, ["c", "a", "b"]), ("side", "mid", 3, ["a", "c", "b"])])

    def test_taken_names(self):
        names = ["a", "b", "c", "d"]
        rows = [("tail", "top", 0, names), ("top", "arm", 0, names), ("arm", None, 0, names)]
        piece = Piece(rows, [], mouths=["tail"] * 2, foreign=names)
        raises(self, DuplicateName, {"name": "arm"}, put_in, forked(), ["fork"], piece)
        raises(self, DuplicateName, {"name": "arm"}, put_in, forked(), ["fork", "tail"], piece)
        piece = Piece([("tail", None, 0, names)], [], mouths=["tail"] * 2, foreign=names)
        raises(self, DuplicateName, {"name": "tail"}, put_in, forked(), ["fork"], piece)
        self.assertEqual(put_in(forked(), ["fork", "tail"], piece).towns, ["arm", "tail", "top"])
        # A thing may have the name of a town.
        piece = Piece([("a", None, 0, names)], [], mouths=["a"] * 2, foreign=names)
        self.assertEqual(put_in(forked(), ["fork"], piece).after("top"), "a")

    def test_pieces_that_are_not_comparable(self):
        names = ["a", "b", "c", "d"]
        many = [(f"s{at}", "arm" if at else None, 0, names) for at in range(7)] + [("arm", "s0", 0, names)]
        others = [
            Piece(many, [], mouths=["s1"], foreign=names),
            Piece(many, [], mouths=["s1"] * 3, foreign=names),
            Piece(many, [("a", "s1")], mouths=["s1"] * 2, foreign=["b", "c", "d"]),
            Piece([("fork", None, 1, names[1:])], [], mouths=["fork"] * 2, foreign=names[1:]),
            Piece([("fork", None, 1, names + ["e"])], [], mouths=["fork"] * 2, foreign=names + ["e"])]
        for other in others:
            raises(self, NotComparable, {}, put_in, forked(), ["fork"], other)

    def test_too_many_towns(self):
        names = ["a", "b", "c", "d"]

        def tall(many):
            """A piece of so many towns, two of them with names that are taken."""
            towns = ["arm", "top"] + [f"s{at}" for at in range(many - 2)]
            rows = [(town, towns[at + 1] if at + 1 < many else None, 0, names) for at, town in enumerate(towns)]
            return Piece(rows, [], mouths=["arm", "top"], foreign=names)
        # A name that stands twice counts twice.
        raises(self, BadCount, {"what": "towns", "many": 11}, put_in, forked(), ["fork"], tall(8))
        raises(self, BadCount, {"what": "towns", "many": 9}, put_in, forked(), ["fork"], tall(6))
        raises(self, DuplicateName, {"name": "arm"}, put_in, forked(), ["fork"], tall(5))
        rows = [(f"s{at}", f"s{at - 1}" if at else None, 0, names) for at in range(5)]
        piece = Piece(rows, [], mouths=["s4", "s0"], foreign=names)
        self.assertEqual(len(put_in(forked(), ["fork"], piece).towns), 8)

    def test_nothing_is_changed(self):
        river, towns = forked(), ["fork"]
        piece = cut_out(river, towns)
        put_in(river, towns, piece)
        self.assertTrue(river == forked() and piece == cut_out(forked(), ["fork"]) and towns == ["fork"])


def fitting(seed):
    """An upper and a lower piece that can be joined, as far as their things tell."""
    chance = random.Random(seed)
    uppers, lowers = ([f"{letter}{at}" for at in range(chance.randint(1, 3))] for letter in "ul")
    things = [f"h{at}" for at in range(chance.randint(0, 4))]
    owners = {thing: chance.choice("ulf") for thing in things}
    pieces = []
    for letter, towns, most in (("u", uppers, 2), ("l", lowers, 2)):
        rows = [(town, chance.choice(towns[:at]) if at else None, chance.choice([0, 1, 1, 2]),
                 chance.sample(things, len(things))) for at, town in enumerate(towns)]
        own = [(thing, chance.choice(towns)) for thing in things if owners[thing] == letter]
        pieces.append(Piece(rows, own, mouths=[chance.choice(towns) for _ in range(chance.randint(0, most))],
                            foreign=[thing for thing in things if owners[thing] != letter]))
    return pieces


UPPER = Piece([("up", None, 1, ["f", "a", "b"])], [("a", "up")], mouths=["up", "up"], foreign=["b", "f"])
LOWER = Piece([("low", None, 1, ["b", "f", "a"]), ("side", "low", 0, ["a", "b", "f"])], [("b", "side")],
              mouths=["low", "side"], foreign=["f", "a"])


class Joined(unittest.TestCase):

    def test_answers(self):
        piece = joined(UPPER, LOWER, 1)
        self.assertIsInstance(piece, Piece)
        same(self, piece.town_rows(), [
            ("low", None, 1, ["b", "f", "a"]), ("side", "low", 0, ["a", "b", "f"]), ("up", "side", 1, ["f", "a", "b"])])
        same(self, piece.thing_rows(), [("a", "up"), ("b", "side")])
        same(self, [piece.foreign, piece.mouths, piece.outlet], [["f"], ["low", "up", "up"], "low"])
        same(self, joined(upper=UPPER, lower=LOWER, mouth=0).mouths, ["up", "up", "side"])
        same(self, joined(UPPER, LOWER, 0).town_rows()[2], ("up", "low", 1, ["f", "a", "b"]))

    def test_an_upper_piece_without_mouths(self):
        upper = Piece(UPPER.town_rows(), UPPER.thing_rows(), foreign=["b", "f"])
        same(self, joined(upper, LOWER, 0).mouths, ["side"])
        same(self, joined(upper, LOWER, 1).mouths, ["low"])

    def test_wrong_numbers(self):
        strange = Piece([("low", None, 0, [])], [], mouths=["low"] * 3)
        for mouth in (-1, 2, True, False, 10 ** 59):
            raises(self, BadNumber, {"number": mouth}, joined, UPPER, LOWER, mouth)
            raises(self, BadNumber, {"number": mouth}, joined, strange, LOWER, mouth)
        none = Piece([("low", None, 0, [])], [])
        for mouth in (0, -1, 1, False):
            raises(self, BadNumber, {"number": mouth}, joined, strange, none, mouth)

    def test_things_that_do_not_fit(self):
        # Each with a common town name, and too many mouths and towns.
        names = ["a", "b", "f"]
        for things, foreign in ((["a"], ["b"]), (["a"], ["b", "f", "g"]), ([], names + ["g"]), (["b"], ["a", "f"]),
                                (["a", "b"], ["f"]), ([], []), (["a"], ["b", "g"])):
            liking = things + foreign
            rows = [("low", None, 0, liking)] + [(f"s{at}", "low", 0, liking) for at in range(7)]
            upper = Piece(rows, [(thing, "low") for thing in things], mouths=["low"] * 3, foreign=foreign)
            raises(self, NotComparable, {}, joined, upper, LOWER, 0)

    def test_counts_and_common_names(self):
        names = ["a", "b", "f"]

        def upper(many, mouths):
            """A piece with so many towns, two of which have names of the lower piece."""
            towns = (["side", "low"] + [f"s{at}" for at in range(8)])[:many]
            rows = [(town, None if town == towns[0] else towns[0], 0, names) for town in towns]
            return Piece(rows, [("a", towns[0])], mouths=[towns[0]] * mouths, foreign=["b", "f"])
        raises(self, BadCount, {"what": "towns", "many": 9}, joined, upper(7, 3), LOWER, 0)
        raises(self, BadCount, {"what": "towns", "many": 10}, joined, upper(8, 0), LOWER, 1)
        raises(self, BadCount, {"what": "mouths", "many": 4}, joined, upper(6, 3), LOWER, 0)
        raises(self, DuplicateName, {"name": "low"}, joined, upper(6, 2), LOWER, 0)
        raises(self, DuplicateName, {"name": "side"}, joined, upper(1, 0), LOWER, 1)
        rows = [(f"s{at}", "s0" if at else None, 0, names) for at in range(6)]
        piece = Piece(rows, [("a", "s0")], mouths=["s1", "s2"], foreign=["b", "f"])
        self.assertEqual(len(joined(piece, LOWER, 0).towns), 8)
        self.assertEqual(joined(piece, LOWER, 0).mouths, ["s1", "s2", "side"])

    def test_the_outflow_of_the_joined_piece(self):
        found = 0
        for seed in range(60):
            upper, lower = fitting(seed)
            for mouth in range(len(lower.mouths)):
                if len(lower.mouths) - 1 + len(upper.mouths) > 3:
                    continue
                piece = joined(upper, lower, mouth)
                found += 1
                many = len(upper.mouths)
                self.assertEqual(sorted(piece.things + piece.foreign), sorted(lower.things + lower.foreign))
                for inflow in inflows(piece)[:60]:
                    above = [(thing, at - mouth) for thing, at in inflow if mouth <= at < mouth + many]
                    below = [(thing, at if at < mouth else at - many + 1) for thing, at in inflow
                             if not mouth <= at < mouth + many]
                    below += [(thing, mouth) for thing in outflow(upper, above)]
                    same(self, outflow(piece, inflow), outflow(lower, below))
        self.assertGreater(found, 30)

    def test_a_river_is_joined_again(self):
        # A part and the whole rest above one of its mouths give the piece of both together.
        river = forked()
        both = joined(cut_out(river, ["top"]), cut_out(river, ["fork", "tail"]), 1)
        self.assertTrue(both == cut_out(river, ["top", "fork", "tail"]))
        self.assertTrue(are_comparable(both, cut_out(river, ["top", "fork", "tail"])))

    def test_nothing_is_changed(self):
        before = copy.deepcopy((UPPER, LOWER))
        joined(UPPER, LOWER, 0)
        self.assertTrue((UPPER, LOWER) == before)


if __name__ == "__main__":
    unittest.main()
