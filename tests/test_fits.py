"""Fits: fits.py, [65] to [67] and [69]."""

import copy
import itertools
import unittest

from riverkeeps.diaries import Diary, is_fit, simple_fit
from riverkeeps.errors import BadCount, BadKind, BadNumber, NoFit, TooMany, UnknownThing, UnknownTown
from riverkeeps.fits import (
    count_fits, first_unfit, fit_at, is_wrong_set, least_fit, least_wrong, may_hold, must_hold, possible_stages)
from riverkeeps.listing import count_stages
from tests.helpers import A, B, C, C2, END, bare, example, lists_in, raises, same, sixty, sixty_one, spoil, two_seas
from tests.model import Model, small_rivers, subsets
from tests.test_diaries import all_sightings, fitting_rows, random_entries, sighted, wide

SMALL = small_rivers(15, least=2, most=8) + [example(), two_seas(), bare()]
DIARIES = [(river, random_entries(river, at * 1000 + seed)) for at, river in enumerate(SMALL) for seed in range(10)]
# No stage fits the entry at index 1, with the one before it.
UNFIT = [(0, None, [("a", "landed", "hill")]), (0, None, [("a", "unlanded", "hill")]), (0, None, [])]


def fresh(case, call, river, entries, *args, **more):
    """The answer shares no lists, changing it changes no later one, and the call leaves the diary as it was."""
    diary = Diary(river, entries)
    first = call(diary, *args, **more)
    expected = copy.deepcopy(first)
    found = lists_in(first)
    case.assertEqual(len({id(one) for one in found}), len(found))
    spoil(first)
    same(case, call(diary, *args, **more), expected)
    same(case, diary.entries, Diary(river, entries).entries)


class Fits(unittest.TestCase):

    def test_an_example(self):
        diary = Diary(example(), [(1, 2, [("b", "afloat", "mid")]), (0, 1, [("c", "landed", "side")])])
        same(self, count_fits(diary), 1)
        same(self, least_fit(diary=diary), [[A, B], [A, B, C]])
        same(self, fit_at(diary=diary, number=0), [[A, B], [A, B, C]])
        self.assertIsNone(first_unfit(diary=diary))
        same(self, possible_stages(diary=diary, at=1), [[A, B, C]])

    def test_all_rows_of_stages(self):
        with_fits = 0
        for river, entries in DIARIES:
            diary = Diary(river, entries)
            rows = fitting_rows(river, entries)
            same(self, count_fits(diary=diary), len(rows))
            same(self, least_fit(diary), rows[0] if rows else None)
            for number, row in list(enumerate(rows))[:12] + list(enumerate(rows))[-3:]:
                same(self, fit_at(diary, number), row)
                self.assertTrue(is_fit(diary, row))
            for number in (-1, len(rows), len(rows) + 1, True, False, 10 ** 59):
                raises(self, BadNumber, {"number": number}, fit_at, diary, number)
            unfit = next((at for at in range(len(entries)) if not fitting_rows(river, entries[:at + 1])), None)
            same(self, first_unfit(diary), unfit)
            with_fits += bool(rows)
        self.assertGreater(with_fits, 60)
        self.assertGreater(len(DIARIES) - with_fits, 30)

    def test_what_may_and_must_hold(self):
        for river, entries in DIARIES:
            diary = Diary(river, entries)
            rows = fitting_rows(river, entries)
            places = Model(river).stages()
            for at in range(len(entries)):
                stages = []
                for row in rows:
                    if row[at] not in stages:
                        stages.append(row[at])
                numbers = Model(river).landings
                stages.sort(key=lambda stage: (len(stage), [numbers.index(landing) for landing in stage]))
                same(self, possible_stages(diary, at), stages)
                for sighting in all_sightings(river)[at::5]:
                    if rows:
                        seen = [sighted(stage, places[frozenset(stage)], sighting) for stage in stages]
                        self.assertIs(may_hold(diary, at, sighting), any(seen))
                        self.assertIs(must_hold(diary, at, sighting), all(seen))
                    else:
                        unfit = {"at": first_unfit(diary)}
                        raises(self, NoFit, unfit, may_hold, diary, at, sighting)
                        raises(self, NoFit, unfit, must_hold, diary, at, sighting)

    def test_a_diary_without_entries(self):
        for river in (example(), bare(), sixty()):
            diary = Diary(river, [])
            same(self, least_fit(diary), [])
            same(self, count_fits(diary), 1)
            same(self, fit_at(diary, 0), [])
            self.assertIsNone(first_unfit(diary))
            raises(self, BadNumber, {"number": 1}, fit_at, diary, 1)
            for at in (0, -1, 1, True, False):
                for call, args in ((possible_stages, ()), (may_hold, (("x", "gone", "y"),)), (must_hold, (("x", "gone", "y"),))):
                    raises(self, BadNumber, {"number": at}, call, diary, at, *args)

    def test_no_fit(self):
        diary = Diary(example(), UNFIT)
        self.assertIsNone(least_fit(diary))
        same(self, [count_fits(diary), first_unfit(diary)], [0, 1])
        for number in (0, 1, -1, False):
            raises(self, BadNumber, {"number": number}, fit_at, diary, number)
        for at in range(3):
            same(self, possible_stages(diary, at), [])
            raises(self, NoFit, {"at": 1}, may_hold, diary, at, ("a", "sea", None))
            raises(self, NoFit, {"at": 1}, must_hold, diary, at, ("a", "sea", None))
        same(self, first_unfit(Diary(example(), [(3, 2, [])])), 0)
        # The first entries alone have a fit; only the last one cannot be reached in time.
        same(self, first_unfit(Diary(example(), [(0, 0, []), (0, 1, []), (6, None, [])])), 2)
        same(self, count_fits(Diary(example(), [(0, 0, []), (0, 1, []), (4, None, [])])), 6)

    def test_the_simple_fit_is_the_greatest(self):
        for at, river in enumerate(SMALL):
            for seed in range(8):
                diary = Diary(river, random_entries(river, at * 10 + seed, simple=True))
                fit = simple_fit(diary)
                self.assertEqual(fit is None, count_fits(diary) == 0)
                if fit is not None:
                    for index, stage in enumerate(fit):
                        same(self, possible_stages(diary, index)[-1], stage)

    def test_many_fits(self):
        diary = Diary(sixty(), [(0, None, [])] * 8)
        many = count_fits(diary)
        # Things do not meet in this river: each thing's deeds go up on their own over eight entries.
        self.assertEqual(many, 9 * 9 * 45 * 495)
        same(self, least_fit(diary), [[]] * 8)
        same(self, fit_at(diary, many - 1), [sixty().landings()] * 8)
        same(self, fit_at(diary, 1), [[]] * 7 + [[("a", "t0")]])
        raises(self, BadNumber, {"number": many}, fit_at, diary, many)

    def test_nothing_is_changed(self):
        entries = [(0, None, [("b", "unlanded", "mid")]), (1, 2, [])]
        for call, args in ((least_fit, ()), (fit_at, (5,)), (possible_stages, (1,)), (count_fits, ()), (first_unfit, ()),
                           (may_hold, (1, ("b", "sea", None))), (must_hold, (0, ("b", "sea", None)))):
            fresh(self, call, example(), entries, *args)


class Checks(unittest.TestCase):

    def test_at(self):
        for river in (example(), sixty_one()):
            diary = Diary(river, UNFIT if river == example() else [(0, None, [])] * 3)
            for at in (-1, 3, True, False, 10 ** 59):
                raises(self, BadNumber, {"number": at}, possible_stages, diary, at)
                raises(self, BadNumber, {"number": at}, may_hold, diary, at, ("x", "gone", "y"))
                raises(self, BadNumber, {"number": at}, must_hold, diary, at, ("x", "gone", "y"))

    def test_sightings(self):
        # They come behind `at`, and ahead of TooMany and NoFit.
        for diary in (Diary(example(), UNFIT), Diary(sixty_one(), [(0, None, [])])):
            for call in (may_hold, must_hold):
                raises(self, UnknownThing, {"thing": "x"}, call, diary, 0, ("x", "gone", "y"))
                raises(self, BadKind, {"kind": "gone"}, call, diary, 0, ("a", "gone", "y"))
                for kind in ("kept", "sea", "afloat", "landed", "unlanded"):
                    raises(self, UnknownTown, {"town": "y"}, call, diary, 0, ("a", kind, "y"))
                raises(self, UnknownTown, {"town": "t0"}, call, Diary(sixty_one(), [(0, 0, [])]), 0, ("a", "sea", "t0"))

    def test_the_limit(self):
        self.assertEqual([count_stages(sixty()), count_stages(sixty_one())], [60, 61])
        for entries in ([(0, None, [])], [(5, 2, [])], [(0, None, [("a", "landed", "t0")])]):
            good, more = Diary(sixty(), entries), Diary(sixty_one(), entries)
            for call, args in ((least_fit, ()), (first_unfit, ()), (count_fits, ()), (possible_stages, (0,)),
                               (least_wrong, ()), (is_wrong_set, ([],))):
                call(good, *args)
                raises(self, TooMany, {"limit": 60}, call, more, *args)
            for number in (0, -1, True, 10 ** 59):
                raises(self, TooMany, {"limit": 60}, fit_at, more, number)
            for call in (may_hold, must_hold):
                raises(self, TooMany, {"limit": 60}, call, more, 0, ("a", "sea", None))
            for addresses in ([], [(9, 9)], [(True, 0)], None, [None]):
                raises(self, TooMany, {"limit": 60}, is_wrong_set, more, addresses)
        self.assertEqual(count_fits(Diary(sixty(), [(0, None, [])])), 60)

    def test_the_limit_without_entries(self):
        for river in (sixty_one(), wide()):
            diary = Diary(river, [])
            for call, args in ((least_fit, ()), (first_unfit, ()), (count_fits, ()), (fit_at, (0,)), (fit_at, (-1,)),
                               (least_wrong, ()), (is_wrong_set, ([],))):
                raises(self, TooMany, {"limit": 60}, call, diary, *args)
            for at in (0, True):
                raises(self, BadNumber, {"number": at}, possible_stages, diary, at)

    def test_least_wrong(self):
        nine = [(0, None, [("a", "sea", None)] * 4)] * 2 + [(0, None, [("b", "sea", None)])]
        for river in (example(), sixty_one()):
            for most in (-1, 3, True, False, 10 ** 59):
                raises(self, BadNumber, {"number": most}, least_wrong, Diary(river, nine), most=most)
            raises(self, BadCount, {"what": "sightings", "many": 9}, least_wrong, Diary(river, nine))
            raises(self, BadCount, {"what": "sightings", "many": 18}, least_wrong, Diary(river, nine * 2), most=0)
        raises(self, TooMany, {"limit": 60}, least_wrong, Diary(sixty_one(), nine[:2]), most=0)
        self.assertEqual(least_wrong(Diary(example(), nine[:2])), [])
        # The judge has no such bound.
        self.assertIs(is_wrong_set(Diary(example(), nine), [(at, index) for at in (0, 1) for index in range(4)]), True)


class Wrong(unittest.TestCase):

    def test_an_example(self):
        diary = Diary(example(), UNFIT)
        same(self, least_wrong(diary=diary), [[(0, 0)], [(1, 0)]])
        same(self, least_wrong(diary, most=1), [[(0, 0)], [(1, 0)]])
        same(self, least_wrong(diary, most=0), [])
        for most in range(3):
            same(self, least_wrong(Diary(example(), UNFIT[:1]), most=most), [[]])
            same(self, least_wrong(Diary(example(), []), most=most), [[]])
            same(self, least_wrong(Diary(example(), [(2, 1, UNFIT[0][2])]), most=most), [])

    def test_two_equal_sightings_are_two(self):
        twice = [("a", "landed", "mid")] * 2
        diary = Diary(example(), [(0, None, twice), (0, None, [])])
        same(self, least_wrong(diary), [[(0, 0), (0, 1)]])
        same(self, least_wrong(diary, most=1), [])
        self.assertIs(is_wrong_set(diary, [(0, 0)]), False)
        self.assertIs(is_wrong_set(diary, [(0, 1), (0, 0)]), True)
        same(self, least_wrong(Diary(example(), [(0, None, twice), (0, None, twice[:1])])), [])

    def test_all_sets_of_short_diaries(self):
        sizes = {}
        for river, entries in DIARIES:
            diary = Diary(river, entries)
            addresses = [(at, index) for at, entry in enumerate(entries) for index in range(len(entry[2]))]
            wrong = []
            for chosen in subsets(addresses):
                left = [(least, most, [sighting for index, sighting in enumerate(sightings) if (at, index) not in chosen])
                        for at, (least, most, sightings) in enumerate(entries)]
                is_wrong = bool(fitting_rows(river, left))
                if is_wrong:
                    wrong.append(chosen)
                for order in list(itertools.permutations(chosen))[:3]:
                    self.assertIs(is_wrong_set(diary, list(order)), is_wrong)
                    self.assertIs(is_wrong_set(diary, order), is_wrong)
            least = min((len(chosen) for chosen in wrong), default=9)
            sizes[least] = sizes.get(least, 0) + 1
            for most in range(3):
                expected = sorted(chosen for chosen in wrong if len(chosen) == least) if least <= most else []
                same(self, least_wrong(diary, most=most), expected)
        self.assertTrue({0, 1, 2, 9} <= set(sizes), sizes)

    def test_addresses(self):
        diary = Diary(example(), UNFIT)
        self.assertIs(is_wrong_set(diary=diary, addresses=[(1, 0)]), True)
        self.assertIs(is_wrong_set(diary, ((1, 0), (0, 0))), True)
        for addresses in ([], [(1, 0), (1, 0)], [(1, 0), (0, 0), (1, 0)], [(1, 0), (2, 0)], [(1, 0), (1, 1)],
                          [(1, 0), (3, 0)], [(1, -1)], [(-2, 0)], [(1, 0), (-1, 0)], [(True, 0)], [(1, False)],
                          [(1, 0), (False, 0)], [(10 ** 59, 0)]):
            self.assertIs(is_wrong_set(diary, addresses), False, addresses)
            self.assertIs(is_wrong_set(diary, tuple(addresses)), False, addresses)
        # The empty set is wrong exactly if there is a fit.
        self.assertIs(is_wrong_set(Diary(example(), UNFIT[:1]), []), True)
        self.assertIs(is_wrong_set(Diary(example(), [(2, 1, UNFIT[0][2])]), [(0, 0)]), False)

    def test_other_kinds_of_values(self):
        diary = Diary(example(), UNFIT)
        for addresses in (None, 1, True, "10", {(1, 0): True}, [None], ["10"], [(1,)], [(1, 0, 0)], [[1, 0]], [("a", "b")],
                          [(1, None)], [([1], 0)], [1, 0], (1, 0), [(1, 0), None], [(1, "0")], object()):
            self.assertIs(is_wrong_set(diary, addresses), False)

    def test_eight_sightings(self):
        sightings = [("a", "landed", "mid"), ("a", "sea", None)] + [("c", "landed", "mid")] * 6
        same(self, least_wrong(Diary(example(), [(0, None, sightings)])), [[(0, 0), (0, 1)]])
        diary = Diary(example(), [(0, 4, sightings[at:at + 1]) for at in range(8)])
        same(self, least_wrong(diary), [[(0, 0), (1, 0)]])
        same(self, least_wrong(diary, most=1), [])

    def test_nothing_is_changed(self):
        fresh(self, least_wrong, example(), UNFIT)
        fresh(self, least_wrong, example(), UNFIT[:1], most=0)
        fresh(self, is_wrong_set, example(), UNFIT, [(1, 0), (0, 0)])


class Example(unittest.TestCase):

    def test_the_end_of_the_example(self):
        diary = Diary(example(), [(0, None, [("c", "kept", "mid")]), (0, None, [("b", "sea", None)])])
        same(self, possible_stages(diary, 1), [END])
        same(self, possible_stages(diary, 0)[0], [C, C2])
        self.assertIs(must_hold(diary, 1, ("a", "kept", "hill")), True)
        self.assertIs(must_hold(diary, 0, ("a", "kept", "hill")), False)
        self.assertIs(may_hold(diary=diary, at=0, sighting=("a", "kept", "hill")), True)
        self.assertIs(must_hold(diary=diary, at=0, sighting=("a", "unlanded", "side")), True)


if __name__ == "__main__":
    unittest.main()
