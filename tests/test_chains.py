"""Chains of chain turns: chains.py, [41], [42]."""

import unittest

from riverkeeps.chains import chain, end_by_chain, is_chain, moved
from riverkeeps.errors import BadCount, BadKind, BadName, BadNumber, BadRoom, DuplicateName, UnknownThing, UnknownTown
from riverkeeps.rivers import River
from riverkeeps.turns import turned
from tests.helpers import A, A2, B, B2, C, C2, bare, example, forked, fresh, raises, same, two_seas
from tests.model import Model, random_river, small_rivers
from tests.test_turns import chain_turns, full

RIVERS = [example(), bare(), two_seas(), forked()] + small_rivers(10, least=3, most=8, most_things=5)
LARGE = [random_river(seed, 7, 7) for seed in range(12)]
LINE = River([("t0", "t1", 2, list("abcdefg")), ("t1", "t2", 1, list("gfedcba")), ("t2", "t3", 0, list("dcbafge")),
              ("t3", "t4", 1, list("bgafced")), ("t4", None, 1, list("edcbagf"))],
             [("a", "t0"), ("b", "t0"), ("c", "t1"), ("d", "t0"), ("e", "t2"), ("f", "t0"), ("g", "t3")])
CALLS = [(chain, ()), (is_chain, ([],)), (end_by_chain, ()), (moved, ())]


def at_end(model):
    """The places at the end, what has landed there, and what has floated on from each town, by the rule of [18]."""
    places, done = model.start(), []
    while model.free(places):
        landing = model.free(places)[0]
        done.append(landing)
        places, _ = model.land(places, landing[0])
    floated = {town: {thing for thing, name in done if name == town and places[thing] != ("kept", town)}
               for town in model.towns}
    return places, model.ordered(done), floated


def told_chain(river, turn):
    """The chain, by the words of [41], from the ends of both rivers."""
    old, new = at_end(Model(river))[2], at_end(Model(turned(river, turn)))[2]
    first = {"add": lambda: (turn[2], None, turn[1]), "drop": lambda: (river.spring(turn[1]), turn[1], None)}
    town, gone, come = first.get(turn[0], lambda: (turn[1], None, None))()
    rows = []
    while True:
        gone_out, come_out = sorted(old[town] - new[town]), sorted(new[town] - old[town])
        assert len(gone_out) <= 1 and len(come_out) <= 1
        rows.append((town, gone, come, gone_out[0] if gone_out else None, come_out[0] if come_out else None))
        _, _, _, gone, come = rows[-1]
        town = river.after(town)
        if town is None or (gone is None and come is None):
            return rows


class Chain(unittest.TestCase):

    def test_the_worked_example(self):
        same(self, chain(example(), ("more", "hill")),
             [("hill", None, None, "b", None), ("mid", "b", None, "b", None)])
        same(self, chain(example(), ("add", "d", "side", [("mid", 0)])),
             [("side", None, "d", None, "d"), ("mid", None, "d", None, "c")])

    def test_each_word(self):
        same(self, chain(example(), ("drop", "a")), [("hill", "a", None, "b", None), ("mid", "b", None, "b", None)])
        same(self, chain(example(), ("drop", "c")), [("side", "c", None, "c", None), ("mid", "c", None, "b", None)])
        same(self, chain(example(), ("less", "hill")), [("hill", None, None, None, "a"), ("mid", None, "a", None, "a")])
        same(self, chain(example(), ("swap", "hill", 0)), [("hill", None, None, "b", "a"), ("mid", "b", "a", "b", "a")])
        same(self, chain(river=example(), turn=("add", "d", "hill", (("hill", 0), ("mid", 2)))),
             [("hill", None, "d", None, "a"), ("mid", None, "a", None, "a")])

    def test_chains_of_one_row(self):
        # The sea is behind the first town, or nothing changes below it.
        same(self, chain(example(), ("more", "mid")), [("mid", None, None, "b", None)])
        same(self, chain(example(), ("less", "mid")), [("mid", None, None, None, "c")])
        same(self, chain(example(), ("add", "d", "mid", [])), [("mid", None, "d", None, "d")])
        same(self, chain(example(), ("swap", "hill", 1)), [("hill", None, None, None, None)])
        same(self, chain(example(), ("swap", "side", 0)), [("side", None, None, None, None)])
        same(self, chain(example(), ("swap", "mid", 0)), [("mid", None, None, None, None)])
        same(self, chain(bare(), ("more", "t")), [("t", None, None, None, None)])
        same(self, chain(two_seas(), ("drop", "r")), [("y", "r", None, None, None)])
        same(self, chain(two_seas(), ("add", "s", "y", [])), [("y", None, "s", None, None)])

    def test_chains_that_stop_before_the_sea(self):
        river = River([("a", "b", 1, ["x", "y"]), ("b", "c", 5, ["x", "y"]), ("c", None, 0, ["x", "y"])],
                      [("x", "a"), ("y", "a")])
        same(self, chain(river, ("drop", "x")), [("a", "x", None, "y", None), ("b", "y", None, None, None)])
        same(self, chain(river, ("more", "a")), [("a", None, None, "y", None), ("b", "y", None, None, None)])
        same(self, chain(river, ("add", "z", "a", [("a", 0)])), [("a", None, "z", None, "x"), ("b", None, "x", None, None)])

    def test_the_ends_of_both_rivers(self):
        lengths, stopped = set(), 0
        for river in RIVERS + LARGE + [LINE]:
            for turn in chain_turns(river):
                rows = chain(river, turn)
                same(self, rows, told_chain(river, turn))
                self.assertIs(is_chain(river, turn, rows), True)
                lengths.add(len(rows))
                stopped += river.after(rows[-1][0]) is not None
        self.assertTrue({1, 2, 3, 4, 5} <= lengths)
        self.assertGreater(stopped, 100)

    def test_nothing_is_changed(self):
        for call in (chain, end_by_chain, moved):
            fresh(self, call, example(), ("add", "d", "side", [("mid", 0)]))


class Checks(unittest.TestCase):

    def test_the_word_comes_first(self):
        for turn in [("liking", "x", []), ("liking", "hill", ["b", "a", "c"]), ("town", "A", "x", 100, []),
                     ("town", "new", None, 0, ["a", "b", "c"]), ("untown", "side"), ("untown", "x"), ("", "x"),
                     ("Add",), ("removed", "a", 1, 2, 3)]:
            for call, behind in CALLS:
                raises(self, BadKind, {"kind": turn[0]}, call, example(), turn, *behind)

    def test_the_errors_of_turned(self):
        for error, attributes, river, turn in [
                (BadCount, {"what": "things", "many": 11}, full(), ("add", "A", "x", [("x", 1)])),
                (BadName, {"name": "it"}, example(), ("add", "it", "x", [("x", 1)])),
                (DuplicateName, {"name": "a"}, example(), ("add", "a", "x", [("x", 1)])),
                (UnknownTown, {"town": "x"}, example(), ("add", "d", "x", [("y", 1)])),
                (UnknownTown, {"town": "y"}, example(), ("add", "d", "mid", [("y", 1)])),
                (DuplicateName, {"name": "mid"}, example(), ("add", "d", "mid", [("mid", 1), ("mid", 9)])),
                (BadNumber, {"number": True}, example(), ("add", "d", "mid", [("mid", True)])),
                (UnknownThing, {"thing": "hill"}, example(), ("drop", "hill")),
                (UnknownTown, {"town": "a"}, example(), ("more", "a")),
                (BadRoom, {"town": "t3"}, full(), ("more", "t3")),
                (UnknownTown, {"town": "a"}, example(), ("less", "a")),
                (BadRoom, {"town": "side"}, example(), ("less", "side")),
                (UnknownTown, {"town": "a"}, example(), ("swap", "a", 0)),
                (BadNumber, {"number": 2}, example(), ("swap", "mid", 2))]:
            for call, behind in CALLS:
                raises(self, error, attributes, call, river, turn, *behind)


class IsChain(unittest.TestCase):

    def test_the_right_rows_alone(self):
        turn = ("add", "d", "side", [("mid", 0)])
        rows = [("side", None, "d", None, "d"), ("mid", None, "d", None, "c")]
        self.assertIs(is_chain(example(), turn, rows), True)
        self.assertIs(is_chain(river=example(), turn=turn, rows=tuple(rows)), True)
        for wrong in ([], rows[:1], rows[1:], rows[::-1], rows + [rows[1]], [rows[0], rows[0]],
                      rows + [("hill", None, None, None, None)], [("hill", None, None, None, None)] + rows):
            self.assertIs(is_chain(example(), turn, wrong), False)
            self.assertIs(is_chain(example(), turn, tuple(wrong)), False)

    def test_every_changed_item(self):
        turn = ("swap", "hill", 0)
        rows = [("hill", None, None, "b", "a"), ("mid", "b", "a", "b", "a")]
        self.assertIs(is_chain(example(), turn, rows), True)
        for at in range(2):
            for part in range(5):
                for other in (None, "a", "b", "c", "hill", "x", ""):
                    changed = [list(row) for row in rows]
                    changed[at][part] = other
                    changed = [tuple(row) for row in changed]
                    self.assertIs(is_chain(example(), turn, changed), changed == rows)

    def test_nothing_is_changed(self):
        fresh(self, is_chain, example(), ("more", "mid"), [("mid", None, None, "b", None)])


class Ends(unittest.TestCase):

    def test_end_by_chain(self):
        same(self, end_by_chain(example(), ("more", "hill")), [A, B, C, C2])
        same(self, end_by_chain(river=example(), turn=("less", "hill")), [A, A2, B, B2, C, C2])
        same(self, end_by_chain(example(), ("drop", "a")), [B, C, C2])
        same(self, end_by_chain(example(), ("add", "bb", "side", [])),
             [A, B, B2, ("bb", "side"), ("bb", "mid"), C, C2])
        same(self, end_by_chain(bare(), ("add", "a", "t", [])), [("a", "t")])

    def test_moved(self):
        same(self, moved(example(), ("more", "hill")), [("b", ("sea", None), ("kept", "hill"))])
        same(self, moved(example(), ("more", "mid")), [("b", ("sea", None), ("kept", "mid"))])
        same(self, moved(river=example(), turn=("swap", "hill", 0)),
             [("a", ("kept", "hill"), ("sea", None)), ("b", ("sea", None), ("kept", "hill"))])
        same(self, moved(example(), ("drop", "a")), [("b", ("sea", None), ("kept", "hill"))])
        same(self, moved(example(), ("drop", "c")), [("b", ("sea", None), ("kept", "mid"))])
        same(self, moved(example(), ("add", "d", "side", [])), [])
        same(self, moved(example(), ("swap", "side", 0)), [])
        # The kind stays, and the town is another one.
        river = River([("up", "low", 1, ["x", "y"]), ("low", None, 9, ["x", "y"])], [("x", "up"), ("y", "up")])
        same(self, moved(river, ("less", "up")), [("x", ("kept", "up"), ("kept", "low"))])

    def test_the_ends_of_both_rivers(self):
        for river in RIVERS + LARGE + [LINE]:
            old = at_end(Model(river))[0]
            for turn in chain_turns(river):
                new, end, _ = at_end(Model(turned(river, turn)))
                same(self, end_by_chain(river, turn), end)
                same(self, moved(river, turn), [(thing, old[thing], new[thing]) for thing in sorted(old)
                                                if thing in new and old[thing] != new[thing]])


if __name__ == "__main__":
    unittest.main()
