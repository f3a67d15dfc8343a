"""Likings known in part: partial.py, [70]."""

import copy
import itertools
import random
import unittest

from riverkeeps.errors import BadLiking, BadNumber, DuplicateName, TooMany, UnknownThing, UnknownTown
from riverkeeps.partial import completions, may_end, must_end, possible_landings, sure_landings
from riverkeeps.rivers import River
from tests.helpers import A, A2, B, B2, C, C2, bare, example, forked, fresh, raises, same, two_seas
from tests.model import Model, small_rivers

RIVERS = small_rivers(25, least=1, most=14, most_towns=4, most_things=4) + [example(), two_seas(), forked(), bare()]
CALLS = [(must_end, ()), (sure_landings, ()), (possible_landings, ())]


def five(towns=1):
    """A river of five things and some towns that keep one thing each."""
    things = ["a", "b", "c", "d", "e"]
    rows = [(f"t{at}", f"t{at - 1}" if at else None, 1, things) for at in range(towns)]
    return River(rows, [(thing, f"t{towns - 1}") for thing in things])


def random_known(river, seed):
    """Pairs (town, groups) that the seed alone tells, with at most 60 completions."""
    chance = random.Random(seed)
    while True:
        known, many = [], 1
        for town in chance.sample(river.towns, chance.randint(0, min(3, len(river.towns)))):
            things = chance.sample(river.things, len(river.things))
            groups = []
            while things:
                size = chance.randint(1, len(things))
                groups.append(things[:size])
                things = things[size:]
                many *= len(list(itertools.permutations(groups[-1])))
            known.append((town, groups))
        if many <= 60:
            return known


def completed(river, known):
    """The completions by the words of [70]: all likings of all towns, those that are not allowed left out."""
    told = dict(known)

    def allowed(town):
        if town not in told:
            return [river.liking(town)]
        at = {thing: at for at, group in enumerate(told[town]) for thing in group}
        return [list(order) for order in itertools.permutations(river.things)
                if [at[thing] for thing in order] == sorted(at.values())]
    tables = [list(table) for table in itertools.product(*[allowed(town) for town in river.towns])]
    return [River([(row[0], row[1], row[2], liking) for row, liking in zip(river.town_rows(), table)],
                  river.thing_rows()) for table in sorted(tables)]


def ends(river, known):
    """The end of each completion: the landings and the place rows, by the rule of landings alone."""
    found = []
    for one in completed(river, known):
        model = Model(one)
        end = model.end()
        found.append((end, model.rows(model.stages()[frozenset(end)])))
    return found


class Completions(unittest.TestCase):

    def test_their_order(self):
        known = [("mid", [["b", "a"], ["c"]]), ("hill", [["c"], ["b", "a"]])]
        made = completions(river=example(), known=known)
        same(self, [[row[3] for row in one.town_rows()] for one in made], [
            [["c", "a", "b"], ["a", "b", "c"], ["b", "c", "a"]], [["c", "a", "b"], ["b", "a", "c"], ["b", "c", "a"]],
            [["c", "b", "a"], ["a", "b", "c"], ["b", "c", "a"]], [["c", "b", "a"], ["b", "a", "c"], ["b", "c", "a"]]])
        for one in made:
            self.assertIsInstance(one, River)
            same(self, one.thing_rows(), example().thing_rows())
            same(self, [row[:3] for row in one.town_rows()], [row[:3] for row in example().town_rows()])

    def test_the_order_of_the_towns_and_inside_of_groups_has_no_meaning(self):
        known = [("mid", [["b", "a"], ["c"]]), ("hill", [["c"], ["b", "a"]])]
        others = [known[::-1], tuple(known), [("hill", (("c",), ("a", "b"))), ("mid", (["a", "b"], ("c",)))]]
        for other in others:
            self.assertTrue(completions(example(), other) == completions(example(), known))

    def test_nothing_known_and_all_known(self):
        self.assertTrue(completions(example(), []) == [example()])
        # The liking that the river has makes no difference.
        made = completions(example(), [("mid", [["b"], ["c"], ["a"]])])
        same(self, [one.liking("mid") for one in made], [["b", "c", "a"]])
        same(self, [one.liking("mid") for one in completions(example(), [("mid", [["a", "b", "c"]])])],
             [list(order) for order in itertools.permutations("abc")])
        self.assertTrue(completions(bare(), [("t", [])]) == [bare()])
        self.assertTrue(completions(bare(), ()) == [bare()])

    def test_small_rivers(self):
        most = 0
        for at, river in enumerate(RIVERS):
            for seed in range(4):
                known = random_known(river, at * 10 + seed)
                expected = completed(river, known)
                most = max(most, len(expected))
                self.assertTrue(completions(river, known) == expected)
        self.assertGreater(most, 20)

    def test_the_limit(self):
        known = [("t0", [["a", "b", "c"], ["d", "e"]])]
        self.assertEqual(len(completions(five(), known, limit=12)), 12)
        raises(self, TooMany, {"limit": 11}, completions, five(), known, limit=11)
        raises(self, TooMany, {"limit": 1}, completions, five(), known, limit=1)
        self.assertEqual(len(completions(five(), [("t0", [[thing] for thing in "abcde"])], limit=1)), 1)
        self.assertEqual(len(completions(five(), [], limit=1)), 1)
        every = [("t0", [["e", "d", "c", "b", "a"]])]
        self.assertEqual(len(completions(five(), every, limit=120)), 120)
        raises(self, TooMany, {"limit": 119}, completions, five(), every, limit=119)
        raises(self, TooMany, {"limit": 60}, completions, five(), every)
        two = [("t0", [["a", "b", "c"], ["d", "e"]]), ("t1", [["a", "b"], ["c", "d"], ["e"]])]
        self.assertEqual(len(completions(five(2), two)), 48)
        raises(self, TooMany, {"limit": 47}, completions, five(2), two, limit=47)
        things = [f"h{at}" for at in range(10)]
        river = River([(f"t{at}", None, 1, things) for at in range(8)], [(thing, "t0") for thing in things])
        raises(self, TooMany, {"limit": 120}, completions, river, [(town, [things]) for town in river.towns], limit=120)

    def test_wrong_limits(self):
        every = [("t0", [["e", "d", "c", "b", "a"]])]
        for limit in (0, 121, -1, True, False, 10 ** 59):
            raises(self, BadNumber, {"number": limit}, completions, five(), every, limit=limit)
            raises(self, BadNumber, {"number": limit}, completions, five(), [], limit=limit)
            raises(self, UnknownTown, {"town": "x"}, completions, five(), every + [("x", [])], limit=limit)

    def test_nothing_is_changed(self):
        known = [("mid", [["b", "a"], ["c"]])]
        before = copy.deepcopy(known)
        first = completions(example(), known)
        first.clear()
        self.assertEqual(len(completions(example(), known)), 2)
        self.assertEqual(known, before)


class Known(unittest.TestCase):
    """The check of `known`, of each function that has it."""

    def refuses(self, error, attributes, river, known):
        for listed in (known, tuple((town, tuple(tuple(group) for group in groups)) for town, groups in known)):
            raises(self, error, attributes, completions, river, listed, limit=0)
            raises(self, error, attributes, may_end, river, listed, "x")
            for call, _ in CALLS:
                raises(self, error, attributes, call, river, listed)

    def test_towns(self):
        rest = [("hill", [[], ["a"]]), ("x", [[]])]
        good = ("hill", [["a", "b", "c"]])
        for town in ("y", "a", "sea", ""):
            self.refuses(UnknownTown, {"town": town}, example(), [good, (town, [[]])] + rest)
        self.refuses(DuplicateName, {"name": "hill"}, example(), [good, ("mid", good[1])] + rest)
        self.refuses(DuplicateName, {"name": "hill"}, example(), [good, good])

    def test_groups(self):
        for groups in ([], [["a", "b", "c"], []], [[], ["a", "b", "c"]], [["a"], ["b"]], [["a", "b"], ["c", "a"]],
                       [["a", "a", "b"]], [["a", "b", "c", "x"]], [["a", "b"], ["x"]], [["a", "b", "c"], ["hill"]]):
            self.refuses(BadLiking, {"town": "mid"}, example(), [("hill", [["b"], ["a", "c"]]), ("mid", groups),
                                                                 ("mid", []), ("x", [])])
        self.refuses(BadLiking, {"town": "t"}, bare(), [("t", [[]])])
        self.refuses(BadLiking, {"town": "t"}, bare(), [("t", [["a"]])])

    def test_things(self):
        every = [("t0", [["e", "d", "c", "b", "a"]])]
        for thing in ("x", "t0", "", "A"):
            raises(self, UnknownThing, {"thing": thing}, may_end, five(), every, thing)

    def test_too_many(self):
        every = [("t0", [["e", "d", "c", "b", "a"]])]
        for call, args in CALLS + [(may_end, ("a",))]:
            raises(self, TooMany, {"limit": 60}, call, five(), every, *args)
            call(five(2), [("t0", [["a", "b", "c"], ["d", "e"]]), ("t1", [["a", "b"], ["c", "d"], ["e"]])], *args)
            raises(self, TooMany, {"limit": 60}, call, five(2),
                   [("t0", [["a", "b", "c"], ["d", "e"]]), ("t1", [["a", "b", "c"], ["d"], ["e"]])], *args)


class Ends(unittest.TestCase):

    def test_an_example(self):
        # On the hill, a and b may be the other way round.
        known = [("hill", [["a", "b"], ["c"]])]
        same(self, may_end(river=example(), known=known, thing="a"), [("kept", "hill"), ("sea", None)])
        same(self, may_end(example(), known, "b"), [("kept", "hill"), ("sea", None)])
        same(self, may_end(example(), known, "c"), [("kept", "mid")])
        same(self, must_end(river=example(), known=known), [("c", "kept", "mid")])
        same(self, sure_landings(river=example(), known=known), [A, B, C, C2])
        same(self, possible_landings(river=example(), known=known), [A, A2, B, B2, C, C2])

    def test_the_order_of_places(self):
        known = [("hill", [["a", "b"], ["c"]]), ("mid", [["a", "b", "c"]])]
        same(self, may_end(example(), known, "a"), [("kept", "hill"), ("kept", "mid"), ("sea", None)])
        same(self, may_end(example(), known, "c"), [("kept", "mid"), ("sea", None)])
        same(self, must_end(example(), known), [])

    def test_nothing_known(self):
        same(self, must_end(bare(), [("t", [])]), [])
        same(self, [sure_landings(bare(), []), possible_landings(bare(), [])], [[], []])
        same(self, must_end(example(), ()), [("a", "kept", "hill"), ("b", "sea", None), ("c", "kept", "mid")])
        same(self, may_end(example(), [], "b"), [("sea", None)])

    def test_all_completions_of_small_rivers(self):
        unsure = 0
        for at, river in enumerate(RIVERS):
            for seed in range(8):
                known = random_known(river, at * 10 + seed)
                found = ends(river, known)
                same(self, sure_landings(river, known),
                     [landing for landing in river.landings() if all(landing in end for end, _ in found)])
                same(self, possible_landings(river, known),
                     [landing for landing in river.landings() if any(landing in end for end, _ in found)])
                sure = []
                for index, thing in enumerate(river.things):
                    places = {rows[index][1:] for _, rows in found}
                    path = [("kept", town) for town in river.path(thing)] + [("sea", None)]
                    same(self, may_end(river, known, thing), [place for place in path if place in places])
                    if len(places) == 1:
                        sure.append(found[0][1][index])
                    else:
                        unsure += 1
                same(self, must_end(river, known), sure)
        self.assertGreater(unsure, 30)

    def test_nothing_is_changed(self):
        known = [("hill", [["a", "b"], ["c"]])]
        fresh(self, may_end, example(), known, "a")
        for call, _ in CALLS:
            fresh(self, call, example(), known)


if __name__ == "__main__":
    unittest.main()
