"""What must come ahead: ahead.py, [33] to [35]."""

import itertools
import random
import unittest

from riverkeeps.ahead import (
    is_order_paper, is_precedence_paper, must_precede, needed_before, order_paper, precedence_paper, precedences)
from riverkeeps.errors import BadCount, NeverDone, SameLanding, TooMany, UnknownLanding
from riverkeeps.rivers import River
from tests.helpers import A, A2, B, B2, C, C2, END, bare, example, forked, fresh, raises, same, two_seas
from tests.model import Model, small_rivers

SMALL = small_rivers(14, least=3, most=6)
RIVERS = SMALL + [example(), two_seas()]
PAIRS = [(A, B2), (B, B2), (C, C2)]


def long_river(many):
    """A river whose end has so many landings, 8 for each thing but the last; every thing floats to the sea."""
    things = [(f"h{at}", f"t{max(0, 8 * at + 8 - many)}") for at in range((many + 7) // 8)]
    liking = [thing for thing, _ in things]
    return River([(f"t{at}", f"t{at + 1}" if at < 7 else None, 0, liking) for at in range(8)], things)


def walked(model):
    """All histories from the start, and those of them that lead to the end."""
    histories = [history for history, _ in model.histories()]
    end = set(model.end())
    return histories, [history for history in histories if set(history) == end]


def precedes(histories, first, then):
    """Every history that does `then` does `first` before it, by the histories themselves."""
    return all(first in history[:history.index(then)] for history in histories if then in history)


def keeps(history, pairs):
    return all(history.index(first) < history.index(then) for first, then in pairs)


def greedy(model, pairs):
    """The order paper, by the words of the interface and the rule of [18]."""
    places, history = model.start(), []
    while model.free(places):
        ready = [landing for landing in model.free(places)
                 if all(first in history for first, then in pairs if then == landing)]
        if not ready:
            return ("stuck", model.ordered(history))
        history.append(ready[0])
        places = model.land(places, ready[0][0])[0]
    return ("history", history)


class Checks(unittest.TestCase):

    def test_the_two_landings(self):
        unknown, never = ("x", "y"), A2
        papers = ("blocked", [])
        for call, behind in [(must_precede, ()), (precedence_paper, ()), (is_precedence_paper, (papers,))]:
            for then in (unknown, never, A, B):
                raises(self, UnknownLanding, {"landing": unknown}, call, example(), unknown, then, *behind)
                raises(self, NeverDone, {"landing": never}, call, example(), never, then, *behind)
            raises(self, UnknownLanding, {"landing": unknown}, call, example(), A, unknown, *behind)
            raises(self, UnknownLanding, {"landing": ("a", "side")}, call, example(), ("a", "side"), A, *behind)
            raises(self, NeverDone, {"landing": never}, call, example(), A, never, *behind)
            raises(self, SameLanding, {"landing": B2}, call, example(), B2, B2, *behind)

    def test_the_pairs(self):
        unknown, never = ("x", "y"), A2
        for call, behind in [(order_paper, ()), (is_order_paper, (("nothing", None),))]:
            for kind in (list, tuple):
                raises(self, BadCount, {"what": "pairs", "many": 21}, call, example(),
                       kind([(unknown, never)] * 21), *behind)
                raises(self, UnknownLanding, {"landing": unknown}, call, example(),
                       kind([PAIRS[0], (unknown, never), (A, A)]), *behind)
                raises(self, NeverDone, {"landing": never}, call, example(), kind([(never, unknown), (A, A)]), *behind)
                raises(self, NeverDone, {"landing": never}, call, example(), kind([(A, never), (A, A)]), *behind)
                raises(self, SameLanding, {"landing": C}, call, example(),
                       kind([(A, B), (C, C), (unknown, A)]), *behind)
                raises(self, SameLanding, {"landing": A}, call, example(),
                       kind([(A, B)] * 19 + [(A, A)]), *behind)

    def test_needed_before(self):
        raises(self, UnknownLanding, {"landing": ("x", "y")}, needed_before, example(), ("x", "y"))
        raises(self, UnknownLanding, {"landing": ("c", "hill")}, needed_before, example(), ("c", "hill"))
        raises(self, NeverDone, {"landing": A2}, needed_before, example(), A2)


class MustPrecede(unittest.TestCase):

    def test_answers(self):
        for first, then in itertools.permutations(END, 2):
            self.assertIs(must_precede(example(), first, then), (first, then) in PAIRS)
        self.assertIs(must_precede(river=two_seas(), first=("q", "x2"), then=("q", "x1")), True)

    def test_either_of_two_may_push_a_third_one_out(self):
        river = River([("top", "low", 1, ["x", "y", "z"]), ("low", None, 5, ["x", "y", "z"])],
                      [("x", "top"), ("y", "top"), ("z", "top")])
        self.assertIs(must_precede(river, ("x", "top"), ("z", "low")), False)
        self.assertIs(must_precede(river, ("y", "top"), ("z", "low")), False)
        self.assertIs(must_precede(river, ("z", "top"), ("z", "low")), True)
        self.assertIs(must_precede(river, ("x", "top"), ("y", "low")), True)

    def test_all_histories_of_small_rivers(self):
        for river in RIVERS + [forked()]:
            model = Model(river)
            histories, _ = walked(model)
            expected = []
            for first, then in itertools.permutations(model.end(), 2):
                answer = precedes(histories, first, then)
                self.assertIs(must_precede(river, first, then), answer)
                if answer:
                    expected.append((first, then))
            same(self, precedences(river), expected)
            for landing in model.end():
                same(self, needed_before(river, landing), [first for first, then in expected if then == landing])


class PrecedencePaper(unittest.TestCase):

    def test_the_worked_example(self):
        same(self, precedence_paper(example(), ("a", "hill"), ("b", "mid")),
             ("blocked", [("b", "hill"), ("c", "side"), ("c", "mid")]))

    def test_histories(self):
        # The landings before the last one are kept, needed or not.
        same(self, precedence_paper(example(), B, C2), ("history", [A, C, C2]))
        same(self, precedence_paper(river=example(), first=C, then=A), ("history", [A]))
        same(self, precedence_paper(example(), B2, C2), ("history", [A, B, C, C2]))
        same(self, precedence_paper(example(), C2, B), ("history", [A, B]))

    def test_small_rivers(self):
        for river in RIVERS:
            model = Model(river)
            histories, _ = walked(model)
            for first, then in itertools.permutations(model.end(), 2):
                without = [stage for stage in model.stages() if first not in stage]
                greatest = max(without, key=len)
                paper = precedence_paper(river, first, then)
                if precedes(histories, first, then):
                    same(self, paper, ("blocked", model.ordered(greatest)))
                else:
                    least = min([history for history in histories if set(history) == greatest],
                                key=lambda history: [model.landings.index(landing) for landing in history])
                    same(self, paper, ("history", least[:least.index(then) + 1]))
                self.assertIs(is_precedence_paper(river, first, then, paper), True)

    def test_nothing_is_changed(self):
        fresh(self, precedence_paper, example(), A, B2)
        fresh(self, precedence_paper, example(), C2, B)


class IsPrecedencePaper(unittest.TestCase):

    def test_right_papers(self):
        for stage in itertools.permutations([B, C, C2]):
            self.assertIs(is_precedence_paper(example(), A, B2, ("blocked", stage)), True)
            self.assertIs(is_precedence_paper(example(), A, B2, ("blocked", list(stage))), True)
        for history in ([B, A, B2], (A, B, B2)):
            self.assertIs(is_precedence_paper(two_arms(), ("c", "side"), B2, ("history", history)), True)
        self.assertIs(is_precedence_paper(river=example(), first=B2, then=C2, paper=("history", [C, C2])), True)

    def test_wrong_stages(self):
        for stage in ([B, C], [B, C, C2, C2], [B, B, C, C2], [A, B, C, C2], [A, B, B2, C, C2], [], [B, C2], [B2],
                      [B, C, C2, ("x", "y")], [("x", "y")], [B, C, C2, A2], [("", "")]):
            self.assertIs(is_precedence_paper(example(), A, B2, ("blocked", stage)), False)
            self.assertIs(is_precedence_paper(example(), A, B2, ("blocked", tuple(stage))), False)
        # The first landing is not the only free one, is not free, or `then` is in the stage.
        self.assertIs(is_precedence_paper(example(), A, B, ("blocked", [B, C, C2])), False)
        self.assertIs(is_precedence_paper(example(), C, B, ("blocked", [A, B, B2])), False)
        self.assertIs(is_precedence_paper(example(), C, C2, ("blocked", [A, B])), False)
        self.assertIs(is_precedence_paper(example(), C, C2, ("blocked", [A, B, B2])), True)
        self.assertIs(is_precedence_paper(example(), C2, B2, ("blocked", [A, C])), False)

    def test_wrong_histories(self):
        river, first = two_arms(), ("c", "side")
        for history in ([], [A, B], [B2], [A, B2, B], [A, B, B2, C2], [A, B, C, B2, B], [A, B, B2, B2],
                        [A, first, B, B2], [first, A, B, B2], [A, B, ("x", "y"), B2], [A, A, B, B2]):
            self.assertIs(is_precedence_paper(river, first, B2, ("history", history)), False)
            self.assertIs(is_precedence_paper(river, first, B2, ("history", tuple(history))), False)

    def test_other_words(self):
        for word in ("", "Blocked", "stuck", "missing", "road", "blocked "):
            for value in ([B, C, C2], (B, C, C2), A, None, [A, B]):
                self.assertIs(is_precedence_paper(example(), A, B2, (word, value)), False)
                self.assertIs(is_precedence_paper(example(), C2, B, (word, value)), False)
        # The right value under the other word.
        self.assertIs(is_precedence_paper(example(), A, B2, ("history", [B, C, C2])), False)
        self.assertIs(is_precedence_paper(example(), C2, B, ("blocked", [A, B])), False)

    def test_exactly_one_kind_is_there(self):
        for river in RIVERS[:9] + [example()]:
            model = Model(river)
            histories, _ = walked(model)
            for first, then in itertools.permutations(model.end(), 2):
                answer = precedes(histories, first, then)
                blocked = [stage for stage, places in model.stages().items() if first not in stage
                           and then not in stage and model.free(places) == [first]]
                self.assertIs(bool(blocked), answer)
                for stage in model.stages():
                    self.assertIs(is_precedence_paper(river, first, then, ("blocked", sorted(stage))), stage in blocked)
                for history in histories[:80]:
                    self.assertIs(is_precedence_paper(river, first, then, ("history", history)),
                                  first not in history and history[-1:] == [then])

    def test_nothing_is_changed(self):
        fresh(self, is_precedence_paper, example(), A, B2, ("blocked", [C2, C, B]))


def two_arms():
    """The example with room for two in mid, so that more histories lead to each landing."""
    return River([("hill", "mid", 1, ["a", "b", "c"]), ("mid", None, 2, ["c", "a", "b"]),
                  ("side", "mid", 0, ["b", "c", "a"])], [("a", "hill"), ("b", "hill"), ("c", "side")])


class Lists(unittest.TestCase):

    def test_answers(self):
        same(self, precedences(example()), [(A, B2), (B, B2), (C, C2)])
        same(self, needed_before(example(), B2), [A, B])
        same(self, needed_before(river=example(), landing=C2), [C])
        same(self, needed_before(example(), A), [])
        same(self, precedences(bare()), [])

    def test_the_limit(self):
        river = long_river(24)
        self.assertEqual(len(Model(river).end()), 24)
        same(self, needed_before(river, ("h0", "t2")), [("h0", "t0"), ("h0", "t1")])
        self.assertEqual(len(precedences(river)), 3 * 28)
        for many in (25, 32):
            river = long_river(many)
            self.assertEqual(len(Model(river).end()), many)
            raises(self, TooMany, {"limit": 24}, needed_before, river, ("h0", "t2"))
            raises(self, TooMany, {"limit": 24}, precedences, river)
            self.assertIs(must_precede(river, ("h0", "t0"), ("h0", "t7")), True)
            raises(self, UnknownLanding, {"landing": ("h0", "x")}, needed_before, river, ("h0", "x"))

    def test_the_limit_counts_the_end_and_not_the_landings(self):
        # Room for all at the top: only 4 of the 32 landings are ever done.
        towns = [(f"t{at}", f"t{at + 1}" if at < 7 else None, 9, ["a", "b", "c", "d"]) for at in range(8)]
        river = River(towns, [(thing, "t0") for thing in "abcd"])
        same(self, precedences(river), [])
        raises(self, NeverDone, {"landing": ("a", "t1")}, needed_before, river, ("a", "t1"))
        # A landing that is never done is refused ahead of the limit.
        liking = ["a", "b", "c", "d"]
        towns = [(f"t{at}", f"t{at + 1}" if at < 7 else None, 1 if at == 0 else 0, liking) for at in range(8)]
        river = River(towns, [(thing, "t0") for thing in "abcd"])
        self.assertEqual(len(Model(river).end()), 25)
        raises(self, NeverDone, {"landing": ("a", "t1")}, needed_before, river, ("a", "t1"))
        raises(self, TooMany, {"limit": 24}, needed_before, river, ("a", "t0"))

    def test_nothing_is_changed(self):
        fresh(self, precedences, example())
        fresh(self, needed_before, example(), B2)


class OrderPaper(unittest.TestCase):

    def test_without_pairs(self):
        for pairs in ([], ()):
            same(self, order_paper(example(), pairs), ("history", [A, B, B2, C, C2]))
            self.assertIs(is_order_paper(example(), pairs, ("history", [A, B, B2, C, C2])), True)
        same(self, order_paper(bare(), []), ("history", []))

    def test_pairs_that_are_kept(self):
        same(self, order_paper(example(), [(C, A)]), ("history", [B, C, A, B2, C2]))
        same(self, order_paper(river=example(), pairs=((C2, A), (B, C), (C2, A))), ("history", [B, C, C2, A, B2]))
        same(self, order_paper(example(), [(A, B2)] * 20), ("history", [A, B, B2, C, C2]))

    def test_pairs_that_are_not_kept(self):
        same(self, order_paper(example(), [(A, B), (B, A)]), ("stuck", [C, C2]))
        same(self, order_paper(example(), [(A, B), (B, C), (C, A)]), ("stuck", []))
        same(self, order_paper(example(), [(C2, C)]), ("stuck", [A, B, B2]))
        same(self, order_paper(example(), [(C2, C), (C2, C)]), ("stuck", [A, B, B2]))
        same(self, order_paper(example(), [(B2, A)] * 20), ("stuck", [B, C, C2]))

    def test_small_rivers(self):
        chance = random.Random(35)
        kinds = set()
        for river in RIVERS:
            model = Model(river)
            _, finished = walked(model)
            two = list(itertools.permutations(model.end(), 2))
            for many in [0, 1, 1, 2, 2, 3, 4, 6] if two else [0]:
                pairs = [chance.choice(two) for _ in range(many)]
                kept = [history for history in finished if keeps(history, pairs)]
                paper = order_paper(river, pairs)
                kinds.add(paper[0])
                same(self, paper, greedy(model, pairs))
                self.assertEqual(paper[0], "history" if kept else "stuck")
                self.assertIs(is_order_paper(river, pairs, paper), True)

        self.assertEqual(kinds, {"history", "stuck"})

    def test_exactly_one_kind_is_there(self):
        chance = random.Random(36)
        for river in SMALL[:10] + [example()]:
            model = Model(river)
            histories, finished = walked(model)
            two = list(itertools.permutations(model.end(), 2))
            for many in [0, 1, 2, 3, 4] if two else [0]:
                pairs = [chance.choice(two) for _ in range(many)]
                stuck = [stage for stage, places in model.stages().items() if model.free(places) and all(
                    any(then == landing and first not in stage for first, then in pairs)
                    for landing in model.free(places))]
                kept = [history for history in finished if keeps(history, pairs)]
                self.assertIsNot(bool(stuck), bool(kept))
                for stage in model.stages():
                    self.assertIs(is_order_paper(river, pairs, ("stuck", sorted(stage))), stage in stuck)
                for history in histories[:80]:
                    self.assertIs(is_order_paper(river, pairs, ("history", history)), history in kept)

    def test_nothing_is_changed(self):
        fresh(self, order_paper, example(), [(C, A)])
        fresh(self, order_paper, example(), [(C2, C)])


class IsOrderPaper(unittest.TestCase):

    def test_histories(self):
        self.assertIs(is_order_paper(example(), [(C, A)], ("history", (C, C2, A, B, B2))), True)
        for history in ([A, C, C2, B, B2], [C, C2, A, B], [], [C, A, B, B2, C2, C2], [C, C2, A, B, B2, A2],
                        [C, C2, B2, A, B], [C, A, B, B2, ("x", "y")], [C, C2, A, B, B, B2], [C, A, A, B, B2, C2]):
            self.assertIs(is_order_paper(example(), [(C, A)], ("history", history)), False)
            self.assertIs(is_order_paper(example(), [(C, A)], ("history", tuple(history))), False)

    def test_stages(self):
        ring = [(A, B), (B, A), (C, B)]
        # The stage need not be reached by a history that keeps the pairs.
        for stage in ([C, C2], (C2, C)):
            self.assertIs(is_order_paper(example(), ring, ("stuck", stage)), True)
        for stage in ([], [C], [C, C2, A], [A, B, C, C2], END, [C2], [C, C2, C], [C, C2, ("x", "y")], [("x", "y")],
                      [C, C2, A2]):
            self.assertIs(is_order_paper(example(), ring, ("stuck", stage)), False)
            self.assertIs(is_order_paper(example(), ring, ("stuck", tuple(stage))), False)
        self.assertIs(is_order_paper(example(), [(C2, C)], ("stuck", [B, B2, A])), True)
        self.assertIs(is_order_paper(example(), [(C2, C), (B2, A)], ("stuck", [B])), True)
        self.assertIs(is_order_paper(example(), [(C2, C), (B, A)], ("stuck", [B])), False)
        # The end is never stuck, and without pairs nothing is.
        self.assertIs(is_order_paper(example(), [(C2, C)], ("stuck", END)), False)
        self.assertIs(is_order_paper(example(), [], ("stuck", [])), False)
        self.assertIs(is_order_paper(bare(), [], ("stuck", [])), False)

    def test_other_words(self):
        for word in ("", "Stuck", "blocked", "missing", "history ", "kept"):
            for value in ([A, B, B2, C, C2], [C, C2], (), A, None):
                self.assertIs(is_order_paper(example(), [], (word, value)), False)
                self.assertIs(is_order_paper(example(), [(A, B), (B, A)], (word, value)), False)

    def test_nothing_is_changed(self):
        fresh(self, is_order_paper, example(), [(C2, C)], ("stuck", [B2, B, A]))


if __name__ == "__main__":
    unittest.main()
