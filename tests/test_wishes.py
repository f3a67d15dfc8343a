"""Wishes: wishes.py, [47] to [51]."""

import itertools
import unittest

from riverkeeps.errors import (
    BadCount, BadNumber, BadRoom, DuplicateName, TooMany, UnknownThing, UnknownTown)
from riverkeeps.rivers import River
from riverkeeps.turns import turned
from riverkeeps.wishes import (
    grants, is_keep_paper, is_kept_together, is_must_paper, keep_paper, kept_together, least_rooms, lift, may_keep,
    must_keep, must_paper)
from tests.helpers import A, A2, B, B2, C, C2, END, bare, example, forked, fresh, raises, same, two_seas
from tests.model import Model, random_river, small_rivers
from tests.test_listing import product_river, stages_in_order

RIVERS = small_rivers(14, least=3, most=6) + [example(), two_seas()]


def wishes(model):
    """Each thing with each town, also those off its path."""
    return list(itertools.product(model.things, model.towns))


def moments(model, history):
    """The places at the start and after each deed of the history."""
    return [model.run(history[:many]) for many in range(len(history) + 1)]


def finished(model):
    """The histories that lead to the end, each with the places at its moments."""
    end = set(model.end())
    histories = [history for history, _ in model.histories() if set(history) == end]
    return [(history, moments(model, history)) for history in histories]


def at_end(river):
    return Model(river).run(any_history(Model(river)))


def any_history(model):
    places, history = model.start(), []
    while model.free(places):
        landing = model.free(places)[-1]
        history.append(landing)
        places = model.land(places, landing[0])[0]
    return history


def with_rooms(river, changes):
    """The river with the changed rooms, or None if a room would leave its range."""
    rows = [(name, after, room + changes.get(name, 0), liking) for name, after, room, liking in river.town_rows()]
    if not all(0 <= row[2] <= 99 for row in rows):
        return None
    return River(rows, river.thing_rows())


class Checks(unittest.TestCase):

    paper = ("nothing", None)
    calls = [(may_keep, ()), (must_keep, ()), (keep_paper, ()), (is_keep_paper, (paper,)), (must_paper, ()),
             (is_must_paper, (paper,)), (least_rooms, ()), (grants, ([("x", True)],)), (lift, ())]

    def test_the_thing_and_the_town(self):
        for call, behind in self.calls:
            for thing in ("x", "hill", "", "A"):
                for town in ("hill", "x"):
                    raises(self, UnknownThing, {"thing": thing}, call, example(), thing, town, *behind)
            for town in ("x", "a", "sea", ""):
                raises(self, UnknownTown, {"town": town}, call, example(), "a", town, *behind)
            raises(self, UnknownThing, {"thing": "a"}, call, bare(), "a", "t", *behind)


class Keeping(unittest.TestCase):

    def test_answers(self):
        may = {("a", "hill"), ("b", "hill"), ("b", "mid"), ("c", "mid")}
        must = {("a", "hill"), ("c", "mid")}
        for thing, town in itertools.product("abc", ("hill", "mid", "side")):
            self.assertIs(may_keep(example(), thing, town), (thing, town) in may)
            self.assertIs(must_keep(example(), thing, town), (thing, town) in must)
        self.assertIs(may_keep(river=example(), thing="b", town="mid"), True)
        self.assertIs(must_keep(river=example(), thing="c", town="mid"), True)

    def test_all_histories_of_small_rivers(self):
        for river in RIVERS + [forked()]:
            model = Model(river)
            ever, always = set(), set(wishes(model))
            for _, places in model.histories():
                ever |= {(thing, place[1]) for thing, place in places.items() if place[0] == "kept"}
            for _, seen in finished(model)[:400]:
                always &= {(thing, places[thing][1]) for places in seen for thing in places
                           if places[thing][0] == "kept"}
            for thing, town in wishes(model):
                self.assertIs(may_keep(river, thing, town), (thing, town) in ever)
                self.assertIs(must_keep(river, thing, town), (thing, town) in always)


class KeepPaper(unittest.TestCase):

    def test_each_word(self):
        same(self, keep_paper(example(), "b", "mid"),
             ("kept", [("a", "hill"), ("b", "hill"), ("c", "side"), ("b", "mid")]))
        same(self, keep_paper(example(), "a", "side"), ("road", None))
        same(self, keep_paper(example(), "c", "hill"), ("road", None))
        same(self, keep_paper(river=example(), thing="c", town="side"), ("room", None))
        same(self, keep_paper(example(), "a", "mid"), ("absent", END))
        same(self, keep_paper(example(), "a", "hill"), ("kept", [C, C2, A]))
        same(self, keep_paper(example(), "c", "mid"), ("kept", [A, B, C, C2]))

    def test_the_first_right_word_is_told(self):
        # Off the path and room 0; on the path, room 0 and never reached.
        river = River([("top", "low", 1, ["x"]), ("low", None, 0, ["x"]), ("else", None, 0, ["x"])], [("x", "top")])
        same(self, keep_paper(river, "x", "else"), ("road", None))
        same(self, keep_paper(river, "x", "low"), ("room", None))
        self.assertIs(is_keep_paper(river, "x", "else", ("room", None)), True)
        self.assertIs(is_keep_paper(river, "x", "low", ("absent", [("x", "top")])), True)
        self.assertIs(is_keep_paper(river, "x", "else", ("absent", [("x", "top")])), False)
        self.assertIs(is_keep_paper(river, "x", "low", ("road", None)), False)

    def test_small_rivers(self):
        words = set()
        for river in RIVERS + [forked()]:
            model = Model(river)
            stages = stages_in_order(model)
            for thing, town in wishes(model):
                word, value = keep_paper(river, thing, town)
                words.add(word)
                self.assertIs(word == "kept", may_keep(river, thing, town))
                self.assertIs(is_keep_paper(river, thing, town, (word, value)), True)
                if word == "kept":
                    greatest = [stage for stage in stages if town not in [name for _, name in stage]][-1]
                    places, history = model.start(), []
                    while set(history) != set(greatest):
                        history.append([landing for landing in model.free(places) if landing in greatest][0])
                        places = model.land(places, history[-1][0])[0]
                    same(self, value, history + [(thing, town)])
                    self.assertEqual(model.run(value)[thing], ("kept", town))
                elif word == "absent":
                    same(self, value, model.end())
                else:
                    self.assertIs(value, None)
        self.assertEqual(words, {"kept", "road", "room", "absent"})

    def test_nothing_is_changed(self):
        fresh(self, keep_paper, example(), "b", "mid")
        fresh(self, keep_paper, example(), "a", "mid")


class IsKeepPaper(unittest.TestCase):

    def test_histories(self):
        for history in ([A, B, B2], [B, A, B2], [A, B, C, B2], [B, A, B2, C]):
            self.assertIs(is_keep_paper(example(), "b", "mid", ("kept", history)), True)
            self.assertIs(is_keep_paper(example(), "b", "mid", ("kept", tuple(history))), True)
        self.assertIs(is_keep_paper(river=example(), thing="b", town="hill", paper=("kept", [C, B])), True)
        for history in ([], [A], [B2], [A, B2], [A, B, B2, C, C2], [A, B, C, C2, B2], [A, B, B2, B2], [A, B],
                        [A, B, ("b", "x")], [("x", "y")], [("", "")], [B, A, B2, A2]):
            self.assertIs(is_keep_paper(example(), "b", "mid", ("kept", history)), False)
            self.assertIs(is_keep_paper(example(), "b", "mid", ("kept", tuple(history))), False)
        # Towns off the path, of room 0, and a thing that floats on at once.
        self.assertIs(is_keep_paper(example(), "c", "side", ("kept", [C])), False)
        self.assertIs(is_keep_paper(example(), "a", "side", ("kept", [A])), False)
        self.assertIs(is_keep_paper(example(), "b", "hill", ("kept", [A, B])), False)

    def test_every_history(self):
        for river in RIVERS[:6] + [example()]:
            model = Model(river)
            for history, places in itertools.islice(model.histories(), 60):
                for thing, town in wishes(model):
                    self.assertIs(is_keep_paper(river, thing, town, ("kept", history)),
                                  places[thing] == ("kept", town))

    def test_road_and_room(self):
        for thing, town in itertools.product("abc", ("hill", "mid", "side")):
            off = town not in example().path(thing)
            self.assertIs(is_keep_paper(example(), thing, town, ("road", None)), off)
            self.assertIs(is_keep_paper(example(), thing, town, ("room", None)), town == "side")

    def test_absent(self):
        for stage in (END, END[::-1], tuple(END), [C2, A, B2, C, B]):
            self.assertIs(is_keep_paper(example(), "a", "mid", ("absent", stage)), True)
            self.assertIs(is_keep_paper(example(), "b", "mid", ("absent", stage)), False)
            self.assertIs(is_keep_paper(example(), "a", "side", ("absent", stage)), False)
        for stage in ([], [A], END[:4], END + [A], END + [A2], END + [("x", "y")], [A2], [("x", "y")], [B, C]):
            self.assertIs(is_keep_paper(example(), "a", "mid", ("absent", stage)), False)
            self.assertIs(is_keep_paper(example(), "a", "mid", ("absent", tuple(stage))), False)

    def test_other_words(self):
        for word in ("", "Kept", "history", "always", "passed", "stuck", "roads", "rooms"):
            for value in ([A, B, B2], END, A, None, ()):
                for thing, town in (("b", "mid"), ("a", "mid"), ("a", "side"), ("c", "side")):
                    self.assertIs(is_keep_paper(example(), thing, town, (word, value)), False)

    def test_nothing_is_changed(self):
        fresh(self, is_keep_paper, example(), "b", "mid", ("kept", [A, B, B2]))


class MustPaper(unittest.TestCase):

    def test_answers(self):
        same(self, must_paper(example(), "a", "hill"), ("always", END))
        same(self, must_paper(river=example(), thing="c", town="mid"), ("always", END))
        same(self, must_paper(example(), "b", "mid"), ("passed", [A, B, C, C2, B2]))
        same(self, must_paper(example(), "b", "hill"), ("passed", [A, C, C2, B, B2]))
        # No landing of the river, a landing that is never done, and a town of room 0.
        same(self, must_paper(example(), "a", "side"), ("passed", [A, B, B2, C, C2]))
        same(self, must_paper(example(), "a", "mid"), ("passed", [A, B, B2, C, C2]))
        same(self, must_paper(example(), "c", "side"), ("passed", [A, B, B2, C, C2]))

    def test_small_rivers(self):
        for river in RIVERS:
            model = Model(river)
            stages = stages_in_order(model)
            for thing, town in wishes(model):
                word, value = must_paper(river, thing, town)
                self.assertIs(word == "always", must_keep(river, thing, town))
                self.assertIs(is_must_paper(river, thing, town, (word, value)), True)
                if word == "always":
                    same(self, value, model.end())
                    continue
                greatest = [stage for stage in stages if (thing, town) not in stage][-1]
                if (thing, town) not in model.landings:
                    greatest = model.end()
                places, history = model.start(), []
                for goal in (greatest, model.end()):
                    while len(history) < len(goal):
                        history.append([landing for landing in model.free(places) if landing in goal][0])
                        places = model.land(places, history[-1][0])[0]
                same(self, value, history)
                self.assertNotIn(("kept", town), [places[thing] for places in moments(model, value)])

    def test_nothing_is_changed(self):
        fresh(self, must_paper, example(), "a", "hill")
        fresh(self, must_paper, example(), "b", "mid")


class IsMustPaper(unittest.TestCase):

    def test_always(self):
        for stage in (END, END[::-1], tuple(END)):
            self.assertIs(is_must_paper(example(), "a", "hill", ("always", stage)), True)
            self.assertIs(is_must_paper(river=example(), thing="c", town="mid", paper=("always", stage)), True)
            for thing, town in (("b", "mid"), ("a", "mid"), ("a", "side"), ("c", "side"), ("b", "hill")):
                self.assertIs(is_must_paper(example(), thing, town, ("always", stage)), False)
        for stage in ([], [A], END[:4], END + [A], END + [A2], END + [("x", "y")], [("x", "y")]):
            self.assertIs(is_must_paper(example(), "a", "hill", ("always", stage)), False)
            self.assertIs(is_must_paper(example(), "a", "hill", ("always", tuple(stage))), False)

    def test_passed(self):
        for history in ([A, B, C, C2, B2], [C, C2, B, A, B2], (C, A, C2, B, B2)):
            self.assertIs(is_must_paper(example(), "b", "mid", ("passed", history)), True)
        for history in ([A, B, B2, C, C2], [A, B, C, B2, C2], [A, B, C, C2], [], [C, C2, A, B2, B], [C, C2, B, A, B2, B2],
                        [C, C2, B, A, ("x", "y")], [("x", "y")], [C, C2, B, A, B2, A2]):
            self.assertIs(is_must_paper(example(), "b", "mid", ("passed", history)), False)
            self.assertIs(is_must_paper(example(), "b", "mid", ("passed", tuple(history))), False)
        # Kept at some moment, and in the end no longer.
        self.assertIs(is_must_paper(example(), "b", "hill", ("passed", [B, A, B2, C, C2])), False)
        self.assertIs(is_must_paper(example(), "b", "hill", ("passed", [A, B, B2, C, C2])), True)
        for thing, town in (("a", "side"), ("a", "mid"), ("c", "side"), ("c", "hill")):
            self.assertIs(is_must_paper(example(), thing, town, ("passed", [B, A, B2, C, C2])), True)

    def test_every_history(self):
        for river in RIVERS[:8] + [example()]:
            model = Model(river)
            for history, seen in finished(model)[:40]:
                for thing, town in wishes(model):
                    self.assertIs(is_must_paper(river, thing, town, ("passed", history)),
                                  all(places[thing] != ("kept", town) for places in seen))
                    self.assertIs(is_must_paper(river, thing, town, ("passed", history[:-1])), history == [])

    def test_other_words(self):
        for word in ("", "Always", "kept", "history", "absent", "road", "always "):
            for value in (END, [C, C2, B, A, B2], A, None, ()):
                for thing, town in (("b", "mid"), ("a", "hill"), ("a", "side")):
                    self.assertIs(is_must_paper(example(), thing, town, (word, value)), False)

    def test_nothing_is_changed(self):
        fresh(self, is_must_paper, example(), "b", "mid", ("passed", [A, B, C, C2, B2]))


class KeptTogether(unittest.TestCase):

    def test_answers(self):
        same(self, kept_together(example(), []), [])
        same(self, kept_together(example(), ()), [])
        same(self, kept_together(example(), [("a", "hill")]), [A])
        same(self, kept_together(example(), (("b", "mid"), ("a", "hill"))), [A, B, B2])
        same(self, kept_together(river=example(), pairs=[("c", "mid"), ("b", "hill"), ("c", "mid")]), [B, C, C2])
        same(self, kept_together(example(), [("a", "hill")] * 20), [A])
        for pairs in ([("a", "hill"), ("b", "hill")], [("b", "mid"), ("c", "mid")], [("c", "side")], [("a", "side")],
                      [("a", "hill"), ("a", "mid")], [("a", "mid")]):
            self.assertIs(kept_together(example(), pairs), None)

    def test_all_stages(self):
        for river in RIVERS:
            model = Model(river)
            stages = [(stage, model.stages()[frozenset(stage)]) for stage in stages_in_order(model)]
            for many in (0, 1, 2, 3):
                for pairs in itertools.islice(itertools.combinations(wishes(model), many), 60):
                    right = [stage for stage, places in stages
                             if all(places[thing] == ("kept", town) for thing, town in pairs)]
                    same(self, kept_together(river, list(pairs)), right[0] if right else None)
                    for stage, _ in stages[:20]:
                        self.assertIs(is_kept_together(river, pairs, stage[::-1]), stage in right)

    def test_is_kept_together(self):
        pairs = [("a", "hill"), ("b", "mid")]
        self.assertIs(is_kept_together(example(), pairs, [B2, B, A]), True)
        self.assertIs(is_kept_together(river=example(), pairs=tuple(pairs), stage=(B2, C, B, A)), True)
        self.assertIs(is_kept_together(example(), [], []), True)
        self.assertIs(is_kept_together(example(), [], END), True)
        for stage in ([], [A], [A, B], [A, B, B2, A], [A, B2], [B2], END, [A, B, B2, ("x", "y")], [A, B, B2, A2],
                      [("x", "y")], [A, B, B2, C2]):
            self.assertIs(is_kept_together(example(), pairs, stage), False)
            self.assertIs(is_kept_together(example(), pairs, tuple(stage)), False)
        for stage in ([A, A], [A2], [("x", "y")]):
            self.assertIs(is_kept_together(example(), [], stage), False)

    def test_the_check_of_the_pairs(self):
        for call, behind in [(kept_together, ()), (is_kept_together, ([("x", "y")],))]:
            for kind in (list, tuple):
                raises(self, BadCount, {"what": "pairs", "many": 21}, call, example(), kind([("x", "y")] * 21), *behind)
                raises(self, UnknownThing, {"thing": "x"}, call, example(),
                       kind([("a", "mid"), ("x", "y"), ("b", "z")]), *behind)
                raises(self, UnknownTown, {"town": "y"}, call, example(), kind([("a", "y"), ("x", "hill")]), *behind)
                raises(self, UnknownTown, {"town": "sea"}, call, example(),
                       kind([("a", "hill")] * 19 + [("a", "sea")]), *behind)

    def test_too_many_stages(self):
        large = product_river(8, 8, 4)
        for pairs in ([], [("h0", "t7")], [("h0", "t0")] * 20):
            raises(self, TooMany, {"limit": 400}, kept_together, large, pairs)
        raises(self, UnknownThing, {"thing": "x"}, kept_together, large, [("x", "y")])
        # The judge goes through no stages.
        self.assertIs(is_kept_together(large, [], []), True)
        self.assertIs(is_kept_together(large, [("h0", "t0")], [("h0", "t0")]), False)
        same(self, kept_together(product_river(7, 4, 4, 1), []), [])
        self.assertIs(kept_together(product_river(7, 4, 4, 1), [("h0", "t7")]), None)

    def test_nothing_is_changed(self):
        fresh(self, kept_together, example(), [("a", "hill")])
        fresh(self, is_kept_together, example(), [("a", "hill")], [B, A])


class LeastRooms(unittest.TestCase):

    def test_answers(self):
        same(self, least_rooms(example(), "b", "mid"), [("mid", 1)])
        same(self, least_rooms(example(), "a", "hill"), [])
        same(self, least_rooms(river=example(), thing="c", town="side"), [("side", 1)])
        self.assertIs(least_rooms(example(), "b", "mid", most=0), None)
        same(self, least_rooms(example(), "c", "mid", most=0), [])
        self.assertIs(least_rooms(example(), "a", "mid", most=1), None)
        self.assertIs(least_rooms(example(), "a", "mid"), None)
        same(self, least_rooms(example(), "a", "mid", most=2), [("hill", -1), ("mid", 1)])
        self.assertIs(least_rooms(example(), "a", "side", most=2), None)

    def test_the_least_of_the_same_size(self):
        # -2 comes before -1, and -1 before 1.
        river = River([("a", "b", 2, ["x", "y"]), ("b", None, 5, ["x", "y"])], [("x", "a"), ("y", "a")])
        same(self, least_rooms(river, "x", "b", most=2), [("a", -2)])
        same(self, least_rooms(river, "y", "b", most=2), [("a", -1)])
        # The room of the town that is named first can neither fall nor be of use.
        river = River([("a", "b", 0, ["x", "y"]), ("b", None, 1, ["x", "y"])], [("x", "b"), ("y", "b")])
        same(self, least_rooms(river, "y", "b", most=2), [("b", 1)])

    def test_all_room_changes(self):
        found = set()
        for river in RIVERS + [forked()] + [random_river(seed, 5, 5) for seed in range(15)]:
            model = Model(river)
            changes = [dict(zip(model.towns, steps)) for steps in
                       itertools.product(range(-2, 3), repeat=len(model.towns))]
            rows = []
            for change in changes:
                changed = with_rooms(river, change)
                size = sum(map(abs, change.values()))
                if size <= 2 and changed is not None:
                    pairs = [(town, step) for town, step in sorted(change.items()) if step]
                    rows.append((size, pairs, at_end(changed)))
            for thing, town in wishes(model):
                right = sorted((size, pairs) for size, pairs, places in rows if places[thing] == ("kept", town))
                for most in (0, 1, 2):
                    least = [pairs for size, pairs in right if size <= most]
                    expected = least[0] if least else None
                    same(self, least_rooms(river, thing, town, most=most), expected)
                    found.add(None if expected is None else len(expected))
                for _, pairs, places in rows[::4]:
                    self.assertIs(grants(river, thing, town, pairs[::-1]), places[thing] == ("kept", town))
        self.assertEqual(found, {None, 0, 1, 2})

    def test_rooms_at_the_ends_of_their_range(self):
        river = River([("t", None, 99, ["x", "y"]), ("u", "t", 0, ["x", "y"])], [("x", "u"), ("y", "t")])
        same(self, least_rooms(river, "x", "t", most=2), [])
        same(self, least_rooms(river, "x", "u", most=2), [("u", 1)])

    def test_refused_sizes(self):
        for most in (-1, 3, True, False, 10 ** 59):
            raises(self, BadNumber, {"number": most}, least_rooms, example(), "a", "hill", most=most)
        raises(self, UnknownTown, {"town": "x"}, least_rooms, example(), "a", "x", most=3)

    def test_nothing_is_changed(self):
        fresh(self, least_rooms, example(), "b", "mid")


class Grants(unittest.TestCase):

    def test_answers(self):
        self.assertIs(grants(example(), "b", "mid", [("mid", 1)]), True)
        self.assertIs(grants(example(), "b", "mid", []), False)
        self.assertIs(grants(example(), "a", "hill", ()), True)
        self.assertIs(grants(example(), "b", "mid", [("side", 0), ("mid", 98), ("hill", 0)]), True)
        self.assertIs(grants(river=example(), thing="a", town="mid", change=(("mid", 1), ("hill", -1))), True)
        self.assertIs(grants(example(), "a", "mid", [("mid", 1)]), False)
        self.assertIs(grants(example(), "a", "hill", [("hill", -1)]), False)
        self.assertIs(grants(example(), "c", "side", [("side", 99)]), True)
        self.assertIs(grants(example(), "a", "side", [("side", 99), ("mid", 98), ("hill", 98)]), False)

    def test_the_checks(self):
        for kind in (list, tuple):
            raises(self, UnknownTown, {"town": "x"}, grants, example(), "a", "hill", kind([("mid", 0), ("x", True)]))
            raises(self, UnknownTown, {"town": "a"}, grants, example(), "a", "hill", kind([("a", 0), ("mid", 99)]))
            raises(self, DuplicateName, {"name": "mid"}, grants, example(), "a", "hill",
                   kind([("mid", 0), ("hill", 1), ("mid", True)]))
            for step in (-2, 99, True, False, 10 ** 59, -10 ** 59):
                raises(self, BadRoom, {"town": "mid"}, grants, example(), "a", "hill",
                       kind([("hill", 98), ("mid", step), ("x", 0)]))
            raises(self, BadRoom, {"town": "side"}, grants, example(), "a", "hill", kind([("side", -1)]))
            raises(self, BadRoom, {"town": "side"}, grants, example(), "a", "hill", kind([("side", 100)]))

    def test_nothing_is_changed(self):
        fresh(self, grants, example(), "a", "mid", [("mid", 1), ("hill", -1)])


class Lift(unittest.TestCase):

    def test_answers(self):
        same(self, lift(example(), "b", "mid"), [1, 0])
        same(self, lift(river=example(), thing="b", town="hill"), [0])
        same(self, lift(example(), "a", "hill"), [])
        same(self, lift(example(), "c", "mid"), [])
        # A town of room 0, a town off the path, and one that is never reached.
        for thing, town in (("c", "side"), ("a", "side"), ("c", "hill"), ("a", "mid")):
            self.assertIs(lift(example(), thing, town), None)

    def test_several_exchanges(self):
        river = River([("t", None, 2, ["p", "a", "q", "b", "r", "c", "s"])],
                      [(thing, "t") for thing in "abcpqrs"])
        same(self, lift(river, "s", "t"), [5, 4, 3, 2, 1])
        same(self, lift(river, "a", "t"), [])
        same(self, lift(river, "q", "t"), [1])
        # Things that never land there are passed by as well.
        river = River([("t", None, 2, ["p", "a", "q", "b", "r", "c", "s"]), ("u", None, 9, list("abcpqrs"))],
                      [(thing, "u" if thing in "aqr" else "t") for thing in "abcpqrs"])
        same(self, lift(river, "s", "t"), [5, 4, 3])
        same(self, lift(river, "b", "t"), [])
        same(self, lift(river, "c", "t"), [4, 3])

    def test_all_numbers_of_exchanges(self):
        lengths = set()
        for river in RIVERS + [forked()] + [random_river(seed, 4, 5) for seed in range(15)]:
            model = Model(river)
            for thing, town in wishes(model):
                exchanges = lift(river, thing, town)
                made = {tuple(model.liking[town]): 0}
                least = None
                layer = [tuple(model.liking[town])]
                while layer and least is None:
                    for liking in layer:
                        if at_end(turned(river, ("liking", town, liking)))[thing] == ("kept", town):
                            least = made[liking]
                    following = []
                    for liking in layer:
                        for at in range(len(liking) - 1):
                            more = liking[:at] + (liking[at + 1], liking[at]) + liking[at + 2:]
                            if more not in made:
                                made[more] = made[liking] + 1
                                following.append(more)
                    layer = following
                self.assertEqual(None if exchanges is None else len(exchanges), least)
                lengths.add(least)
                if exchanges is not None:
                    lifted = river
                    for at in exchanges:
                        self.assertNotEqual(at_end(lifted)[thing], ("kept", town))
                        lifted = turned(lifted, ("swap", town, at))
                    self.assertEqual(at_end(lifted)[thing], ("kept", town))
        self.assertTrue({None, 0, 1, 2} <= lengths)

    def test_nothing_is_changed(self):
        fresh(self, lift, example(), "b", "mid")


if __name__ == "__main__":
    unittest.main()
