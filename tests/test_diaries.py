"""Diaries: diaries.py, [63] to [65] and [68]."""

import copy
import itertools
import random
import unittest

from riverkeeps.diaries import Diary, holds, is_fit, simple_fit
from riverkeeps.errors import BadCount, BadKind, BadNumber, NotSimple, UnknownThing, UnknownTown
from riverkeeps.rivers import River
from riverkeeps.worlds import World
from tests.helpers import A, A2, B, B2, C, C2, END, bare, example, forked, fresh, lists_in, raises, same, spoil, two_seas
from tests.model import Model, small_rivers

KINDS = ["afloat", "kept", "sea", "landed", "unlanded"]
SMALL = small_rivers(12, least=2, most=6) + [example()]


def wide():
    """A river of ten things that land where they like: 1,024 stages."""
    things = [f"h{at}" for at in range(10)]
    return River([("t", None, 99, things)], [(thing, "t") for thing in things])


def all_sightings(river):
    """Every sighting that passes the checks."""
    found = [(thing, "sea", None) for thing in river.things]
    return found + [(thing, kind, town) for thing in river.things for town in river.towns
                    for kind in KINDS if kind != "sea"]


def sighted(done, places, sighting):
    """Whether the sighting holds, by the words of [63]."""
    thing, kind, town = sighting
    if kind == "landed":
        return (thing, town) in done
    if kind == "unlanded":
        return (thing, town) not in done
    return places[thing] == (kind, town)


def fitting_rows(river, entries):
    """All rows of stages that fit the entries, walked by the words of [65]; each stage as a stage list."""
    model = Model(river)
    stages = sorted(((model.ordered(done), places) for done, places in model.stages().items()),
                    key=lambda one: (len(one[0]), [model.landings.index(landing) for landing in one[0]]))
    found = []

    def walk(row, before):
        if len(row) == len(entries):
            found.append(row)
            return
        least, most, sightings = entries[len(row)]
        for stage, places in stages:
            deeds = len(stage) - len(before)
            if set(before) <= set(stage) and least <= deeds and (most is None or deeds <= most):
                if all(sighted(stage, places, sighting) for sighting in sightings):
                    walk(row + [stage], stage)
    walk([], [])
    return found


def random_entries(river, seed, most_entries=3, simple=False):
    """Entries that the seed alone tells; about half of them have a fit."""
    chance = random.Random(seed)
    sightings = [one for one in all_sightings(river) if not simple or one[1] in ("landed", "unlanded")]
    entries = []
    for _ in range(chance.randint(0, most_entries)):
        least, most = (0, None) if simple else (chance.choice([0, 0, 0, 1, 2]), chance.choice([None, None, 0, 1, 2, 3]))
        chosen = [chance.choice(sightings) for _ in range(chance.randint(0, 2))] if sightings else []
        entries.append((least, most, chosen))
    return entries


class Sightings(unittest.TestCase):

    def test_each_kind_on_the_path_and_off_it(self):
        world = World(example(), stage=[A, B, C])
        # a is kept on the hill; b and c are afloat ahead of mid.
        true = [("a", "kept", "hill"), ("b", "afloat", "mid"), ("c", "afloat", "mid"), ("a", "landed", "hill"),
                ("b", "landed", "hill"), ("c", "landed", "side"), ("a", "unlanded", "mid"), ("b", "unlanded", "mid"),
                ("c", "unlanded", "mid"), ("a", "unlanded", "side"), ("b", "unlanded", "side"), ("c", "unlanded", "hill")]
        for sighting in all_sightings(example()):
            self.assertIs(holds(world, sighting), sighting in true, sighting)
        end = World(example(), stage=END)
        self.assertIs(holds(world=end, sighting=("b", "sea", None)), True)
        self.assertIs(holds(end, ("a", "sea", None)), False)
        self.assertIs(holds(end, ("c", "kept", "mid")), True)
        self.assertIs(holds(World(example()), ("c", "afloat", "side")), True)

    def test_all_stages_of_small_rivers(self):
        for river in SMALL + [two_seas()]:
            for done, places in Model(river).stages().items():
                world = World(river, stage=sorted(done))
                for sighting in all_sightings(river):
                    self.assertIs(holds(world, sighting), sighted(done, places, sighting))

    def refuses(self, error, attributes, sighting):
        raises(self, error, attributes, holds, World(example()), sighting)
        late = [("x", "gone", "y"), ("a", "gone", "y")]
        raises(self, error, attributes, Diary, example(), [(0, None, [("a", "sea", None), sighting] + late), (True, 0, [])])
        raises(self, error, attributes, Diary, example(), ((0, None, []), (0, None, (sighting,))))

    def test_unknown_things(self):
        for thing in ("x", "hill", "", "A"):
            for kind, town in (("gone", "y"), ("kept", "y"), ("sea", "y"), ("sea", None), ("landed", "hill")):
                self.refuses(UnknownThing, {"thing": thing}, (thing, kind, town))

    def test_unknown_kinds(self):
        for kind in ("gone", "", "Kept", "float", "Sea", "landed "):
            for town in ("hill", "y", None):
                self.refuses(BadKind, {"kind": kind}, ("a", kind, town))

    def test_unknown_towns(self):
        # The sea has no town, even if the river has it.
        for town in ("hill", "side", "y", "sea", ""):
            self.refuses(UnknownTown, {"town": town}, ("a", "sea", town))
        for kind in KINDS:
            if kind != "sea":
                for town in ("y", "sea", "a", "", None):
                    self.refuses(UnknownTown, {"town": town}, ("a", kind, town))


class Diaries(unittest.TestCase):

    def test_entries(self):
        for many in range(9):
            diary = Diary(example(), [(many, None, [("a", "sea", None)] * at) for at in range(many)])
            self.assertEqual(len(diary), many)
            same(self, diary.entries, [(many, None, [("a", "sea", None)] * at) for at in range(many)])
            self.assertTrue(diary.river == example())
        made = Diary(river=example(), entries=((99, 99, (("a", "sea", None), ("b", "kept", "side"))), (0, 0, ())))
        same(self, made.entries, [(99, 99, [("a", "sea", None), ("b", "kept", "side")]), (0, 0, [])])
        # The bounds may be the wrong way round, and ten sightings may be the same.
        same(self, Diary(example(), [(5, 2, [("a", "sea", None)] * 10)]).entries, [(5, 2, [("a", "sea", None)] * 10)])
        same(self, Diary(bare(), [(0, None, [])]).entries, [(0, None, [])])

    def test_nine_entries(self):
        for late in ((0, None, []), (True, -1, [("x", "gone", "y")] * 11)):
            raises(self, BadCount, {"what": "entries", "many": 9}, Diary, example(), [late] * 9)
            raises(self, BadCount, {"what": "entries", "many": 12}, Diary, example(), tuple([late] * 12))

    def test_bounds(self):
        late = [("x", "gone", "y")] * 11
        for number in (-1, 100, True, False, 10 ** 59):
            raises(self, BadNumber, {"number": number}, Diary, example(), [(0, 99, []), (number, True, late)])
            raises(self, BadNumber, {"number": number}, Diary, example(), [(0, 99, []), (99, number, late), (-1, 0, [])])
            raises(self, BadNumber, {"number": number}, Diary, example(), ((number, None, ()),))
        # An entry is checked completely before the next one.
        raises(self, UnknownThing, {"thing": "x"}, Diary, example(), [(0, 99, late[:1]), (True, True, late)])

    def test_counts_of_sightings(self):
        late = (True, True, [])
        raises(self, BadCount, {"what": "sightings", "many": 11}, Diary, example(),
               [(0, 1, [("a", "sea", None)] * 10), (0, 0, [("x", "gone", "y")] * 11), late])
        raises(self, BadCount, {"what": "sightings", "many": 20}, Diary, example(), [(0, 0, (("x", "gone", "y"),) * 20)])

    def test_what_was_passed_and_what_is_returned_may_be_changed(self):
        sightings = [("a", "sea", None)]
        entries = [(0, None, sightings), (1, 2, sightings)]
        diary = Diary(example(), entries)
        expected = [(0, None, [("a", "sea", None)]), (1, 2, [("a", "sea", None)])]
        sightings.append(("x", "gone", "y"))
        entries.clear()
        same(self, diary.entries, expected)
        told = diary.entries
        found = lists_in(told)
        self.assertEqual(len({id(one) for one in found}), 3)
        spoil(told)
        same(self, diary.entries, expected)
        self.assertEqual(len(diary), 2)

    def test_arguments_are_not_changed(self):
        entries = [(0, None, [("a", "sea", None)]), (1, 2, [])]
        before = copy.deepcopy(entries)
        Diary(example(), entries)
        self.assertEqual(entries, before)


class IsFit(unittest.TestCase):

    def setUp(self):
        self.diary = Diary(example(), [
            (0, 2, [("b", "afloat", "mid")]), (0, 0, []), (1, None, [("c", "landed", "side"), ("b", "unlanded", "mid")])])

    def test_stages_in_any_order(self):
        for last in ([A, B, C], [B, C, A], (C, A, B), [A, B, C, C2]):
            self.assertIs(is_fit(self.diary, [[A, B], (B, A), last]), True)
            self.assertIs(is_fit(diary=self.diary, stages=((B, A), [B, A], last)), True)

    def test_a_landing_twice(self):
        for wrong in ([A, B, A], [A, B, B], (A, A, B)):
            self.assertIs(is_fit(self.diary, [wrong, [A, B], [A, B, C]]), False)
            self.assertIs(is_fit(self.diary, [[A, B], [A, B], list(wrong) + [C]]), False)

    def test_lists_that_are_no_stages(self):
        for wrong in ([A, B, A2], [C2], [A, B, ("x", "y")], [A, B, ("a", "side")], [("", "")]):
            for at in range(3):
                stages = [[A, B], [A, B], [A, B, C]]
                stages[at] = wrong
                self.assertIs(is_fit(self.diary, stages), False)

    def test_too_few_or_too_many(self):
        good = [[A, B], [A, B], [A, B, C]]
        for stages in ([], good[:1], good[:2], good + [[A, B, C]], good + good):
            self.assertIs(is_fit(self.diary, stages), False)
        empty = Diary(example(), [])
        for stages, answer in (([], True), ((), True), ([[]], False), ([[], []], False)):
            self.assertIs(is_fit(empty, stages), answer)

    def test_bounds_and_order(self):
        diary = Diary(example(), [(1, 2, []), (0, 0, []), (2, None, [])])
        for stages, answer in (
                ([[A], [A], [A, B, C]], True), ([[A, B], [A, B], [A, B, C, C2]], True), ([[C], [C], END], True),
                ([[], [], [A, B]], False), ([[A, B, C], [A, B, C], END], False), ([[A], [A, B], END], False),
                ([[A], [A], [A, B]], False), ([[A], [C], END], False), ([[A, B], [A, B], [A, C, B]], False),
                ([[A, C], [A, C], [A, B, B2]], False)):
            self.assertIs(is_fit(diary, stages), answer, stages)
        never = Diary(example(), [(2, 1, [])])
        for stage in ([], [A], [A, B], [A, B, C]):
            self.assertIs(is_fit(never, [stage]), False)

    def test_other_kinds_of_values(self):
        diary = Diary(example(), [(0, None, [])])
        for stages in (None, 0, True, "ab", {}, [None], [0], ["ab"], [{}], [[None]], [[A, "b"]], [[["a", "hill"]]],
                       [[("a", "hill", "mid")]], [[("a", 0)]], [[(["a"], "hill")]], [[()]], World(example()),
                       [World(example())], [[A, [B]]]):
            self.assertIs(is_fit(diary, stages), False)

    def test_all_rows_of_stages_of_small_rivers(self):
        fits = 0
        for at, river in enumerate(SMALL):
            model = Model(river)
            stages = [model.ordered(done) for done in model.stages()]
            for seed in range(6):
                entries = random_entries(river, at * 100 + seed, most_entries=2)
                diary = Diary(river, entries)
                found = fitting_rows(river, entries)
                for row in itertools.product(stages, repeat=len(entries)):
                    self.assertIs(is_fit(diary, list(row)), list(row) in found)
                fits += len(found)
        self.assertGreater(fits, 100)

    def test_there_is_no_limit(self):
        river = wide()
        diary = Diary(river, [(10, 10, [("h3", "kept", "t")])])
        self.assertIs(is_fit(diary, [river.landings()]), True)
        self.assertIs(is_fit(diary, [river.landings()[:9]]), False)

    def test_nothing_is_changed(self):
        stages = [[B, A], [A, B], [C, A, B]]
        self.assertIs(is_fit(self.diary, stages), True)
        self.assertEqual(stages, [[B, A], [A, B], [C, A, B]])


class SimpleFit(unittest.TestCase):

    def test_answers(self):
        diary = Diary(example(), [
            (0, None, [("a", "landed", "hill"), ("c", "unlanded", "mid")]), (0, None, []),
            (0, None, [("b", "unlanded", "mid"), ("a", "unlanded", "side")]), (0, None, [])])
        same(self, simple_fit(diary=diary), [[A, B, C], [A, B, C, C2], [A, B, C, C2], END])
        same(self, simple_fit(Diary(example(), [])), [])
        same(self, simple_fit(Diary(bare(), [(0, None, [])])), [[]])

    def test_no_fit(self):
        for sightings in (
                [("a", "landed", "mid")], [("a", "landed", "side")], [("c", "landed", "hill")],
                [("a", "landed", "hill"), ("a", "unlanded", "hill")]):
            self.assertIsNone(simple_fit(Diary(example(), [(0, None, sightings)])))
        self.assertIsNone(simple_fit(Diary(example(), [
            (0, None, [("b", "landed", "mid")]), (0, None, [("a", "unlanded", "hill")])])))
        same(self, simple_fit(Diary(example(), [
            (0, None, [("a", "unlanded", "hill")]), (0, None, [("b", "landed", "mid")])])), [[B, C, C2], END])

    def test_diaries_that_are_not_simple(self):
        good = (0, None, [("a", "landed", "hill"), ("a", "unlanded", "hill")])
        for wrong in ((1, None, []), (0, 99, []), (0, 0, []), (5, 2, []), (0, None, [("a", "sea", None)]),
                      (0, None, [("a", "landed", "hill"), ("a", "kept", "hill")]),
                      (0, None, [("a", "afloat", "hill"), ("a", "landed", "hill")])):
            for at in range(3):
                raises(self, NotSimple, {"at": at}, simple_fit,
                       Diary(example(), [good] * at + [wrong, good, (1, 1, [])]))

    def test_all_fits_of_small_rivers(self):
        found = {True: 0, False: 0}
        for at, river in enumerate(SMALL + [two_seas()]):
            for seed in range(15):
                entries = random_entries(river, at * 100 + seed, simple=True)
                rows = fitting_rows(river, entries)
                fit = simple_fit(Diary(river, entries))
                found[fit is not None] += 1
                if not rows:
                    self.assertIsNone(fit)
                    continue
                # The fit whose stages contain those of every other one.
                self.assertIn(fit, rows)
                for row in rows:
                    self.assertTrue(all(set(stage) <= set(greatest) for stage, greatest in zip(row, fit)))
        self.assertGreater(min(found.values()), 40)

    def test_there_is_no_limit(self):
        river = wide()
        diary = Diary(river, [(0, None, [("h0", "unlanded", "t")]), (0, None, [("h0", "landed", "t")])])
        same(self, simple_fit(diary), [river.landings()[1:], river.landings()])

    def test_nothing_is_changed(self):
        diary = Diary(forked(), [(0, None, [("a", "landed", "top")]), (0, None, [])])
        first = simple_fit(diary)
        expected = copy.deepcopy(first)
        spoil(first)
        same(self, simple_fit(diary), expected)
        fresh(self, holds, World(example()), ("a", "sea", None))


if __name__ == "__main__":
    unittest.main()
