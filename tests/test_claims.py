"""Claims: claims.py, [78]."""

import itertools
import random
import unittest

from riverkeeps.ahead import order_paper, precedence_paper
from riverkeeps.claims import is_good, paper_for
from riverkeeps.ends import end_places
from riverkeeps.errors import (
    BadCount, BadKind, DuplicateLanding, NeverDone, NotStage, SameLanding, UnknownLanding, UnknownThing, UnknownTown)
from riverkeeps.roads import road
from riverkeeps.wishes import keep_paper
from tests.helpers import A, A2, B, B2, C, C2, END, bare, example, forked, fresh, raises, same, two_seas
from tests.model import Model, small_rivers

RIVERS = small_rivers(12, least=2, most=7) + [example(), two_seas()]
PLACES = [("b", "sea", None), ("c", "kept", "mid"), ("a", "kept", "hill")]

ENDS = (("ends", PLACES), None)
KEPT = ("kept", [A, B, B2])

# Each claim that is good in the example, the paper that paper_for returns, other right papers, and the opposite claim.
GOOD = [
    (("reach", [C], [C, A, B]), ("history", [A, B]), [("history", [B, A]), ("history", (A, B))], ("apart", [C], [C, A, B])),
    (("apart", [C, A], [A, B]), ("missing", C), [], ("reach", [C, A], [A, B])),
    (("apart", [A, B, C], []), ("missing", A), [("missing", B), ("missing", C)], ("reach", [A, B, C], [])),
    (("precedes", A, B2), ("blocked", [B, C, C2]), [("blocked", [C2, C, B]), ("blocked", (B, C, C2))], ("loose", A, B2)),
    (("loose", C2, B2), ("history", [A, B, B2]), [("history", [B, A, C, B2]), ("history", (A, B, B2))],
     ("precedes", C2, B2)),
    (("orderly", [(C2, A)]), ("history", [B, C, C2, A, B2]), [("history", (C, C2, A, B, B2))], ("unorderly", [(C2, A)])),
    (("orderly", []), ("history", END), [("history", [C, C2, B, A, B2])], ("unorderly", ())),
    (("unorderly", [(B2, C), (C2, B)]), ("stuck", [A]), [("stuck", (A,))], ("orderly", [(B2, C), (C2, B)])),
    (("keeps", "b", "mid"), ("kept", [A, B, C, B2]), [("kept", [B, A, B2]), ("kept", (B, A, B2))], ("never", "b", "mid")),
    (("never", "a", "side"), ("road", None), [("room", None)], ("keeps", "a", "side")),
    (("never", "c", "side"), ("room", None), [], ("keeps", "c", "side")),
    (("never", "a", "mid"), ("absent", END), [("absent", END[::-1]), ("absent", tuple(END))], ("keeps", "a", "mid")),
]
WORDS = ["reach", "apart", "precedes", "loose", "orderly", "unorderly", "keeps", "never", "ends"]
# Papers of every word, some of them right for some claim.
PAPERS = [paper for _, paper, others, _ in GOOD for paper in [paper] + others]
PAPERS += [(word, []) for word in ("history", "blocked", "stuck", "kept", "absent")]
PAPERS += [(word, value) for word in ("always", "passed", "", "History") for value in ([], END, A, None)]

# Claims with arguments that raise in the judge of their papers, and what paper_for raises for them.
WRONG = [
    (("reach", [A, B, A2], []), NotStage, {"landing": A2}), (("apart", [], [B2]), NotStage, {"landing": B2}),
    (("reach", [A, A], [A]), DuplicateLanding, {"landing": A}),
    (("apart", [], [("x", "y")]), UnknownLanding, {"landing": ("x", "y")}),
    (("reach", (("a", "side"),), ()), UnknownLanding, {"landing": ("a", "side")}),
    (("precedes", A, ("x", "y")), UnknownLanding, {"landing": ("x", "y")}),
    (("loose", ("b", "side"), A), UnknownLanding, {"landing": ("b", "side")}),
    (("precedes", A2, A), NeverDone, {"landing": A2}), (("loose", A, A2), NeverDone, {"landing": A2}),
    (("precedes", A, A), SameLanding, {"landing": A}), (("loose", C2, C2), SameLanding, {"landing": C2}),
    (("orderly", [(A, B)] * 21), BadCount, {"what": "pairs", "many": 21}),
    (("unorderly", ((A, B),) * 21), BadCount, {"what": "pairs", "many": 21}),
    (("orderly", [(A, B), (A, A)]), SameLanding, {"landing": A}),
    (("unorderly", [(A, A2)]), NeverDone, {"landing": A2}),
    (("orderly", [(("x", "y"), A)]), UnknownLanding, {"landing": ("x", "y")}),
    (("keeps", "x", "mid"), UnknownThing, {"thing": "x"}), (("never", "x", "y"), UnknownThing, {"thing": "x"}),
    (("keeps", "a", "y"), UnknownTown, {"town": "y"}), (("never", "a", "sea"), UnknownTown, {"town": "sea"}),
]


class Good(unittest.TestCase):

    def test_each_word(self):
        self.assertEqual({claim[0] for claim, _, _, _ in GOOD} | {"ends"}, set(WORDS))
        for claim, paper, others, opposite in GOOD:
            same(self, paper_for(river=example(), claim=claim), paper)
            for right in [paper] + others:
                self.assertIs(is_good(river=example(), claim=claim, paper=right), True, (claim, right))
            self.assertIsNone(paper_for(example(), opposite))
            for other in PAPERS + [None]:
                self.assertIs(is_good(example(), opposite, other), False, (opposite, other))

    def test_lists_as_tuples(self):
        self.assertIs(is_good(example(), ("reach", (C,), (C, A, B)), ("history", (B, A))), True)
        self.assertIs(is_good(example(), ("orderly", ((C2, A), (C, B))), ("history", (C, C2, B, A, B2))), True)
        self.assertIs(is_good(example(), ("ends", tuple(PLACES)), None), True)
        same(self, paper_for(example(), ("apart", (C, A), ())), ("missing", A))

    def test_papers_with_another_word(self):
        words = dict(zip(WORDS, [["history"], ["missing"], ["blocked"], ["history"], ["history"], ["stuck"], ["kept"],
                                 ["road", "room", "absent"]]))
        for claim, _, _, _ in GOOD:
            for other in PAPERS:
                if other[0] not in words[claim[0]]:
                    self.assertIs(is_good(example(), claim, other), False, (claim, other))

    def test_papers_with_the_right_word_that_are_wrong(self):
        for claim, paper in (
                (("reach", [C], [C, A, B]), ("history", [A])), (("reach", [C], [C, A, B]), ("history", [A, B, B2])),
                (("reach", [C], [C, A, B]), ("history", [A, ("x", "y")])), (("apart", [C, A], [A, B]), ("missing", A)),
                (("apart", [C, A], [A, B]), ("missing", ("x", "y"))), (("precedes", A, B2), ("blocked", [B])),
                (("precedes", A, B2), ("blocked", [B, B, C, C2])), (("loose", C2, B2), ("history", [A, B, C])),
                (("loose", C2, B2), ("history", [A, B, C, C2, B2])), (("orderly", [(C2, A)]), ("history", END)),
                (("unorderly", [(B2, C), (C2, B)]), ("stuck", [B])), (("unorderly", [(B2, C), (C2, B)]), ("stuck", END)),
                (("keeps", "b", "mid"), ("kept", [])), (("keeps", "b", "mid"), ("kept", END)),
                (("never", "a", "mid"), ("absent", END[1:])), (("never", "a", "mid"), ("absent", END + [A])),
                (("never", "a", "mid"), ("room", None)), (("never", "a", "mid"), ("road", None)),
                (("never", "c", "side"), ("road", None)), (("never", "b", "mid"), ("absent", END))):
            self.assertIs(is_good(example(), claim, paper), False, (claim, paper))

    def test_ends(self):
        for order in itertools.permutations(PLACES):
            self.assertIs(is_good(example(), ("ends", list(order)), None), True)
        self.assertIsNone(paper_for(example(), ("ends", PLACES)))
        wrong = [[], PLACES[:2], PLACES + PLACES[:1], PLACES[:2] + PLACES[:1], PLACES[:2] + [("a", "kept", "mid")],
                 PLACES[:2] + [("a", "afloat", "mid")], PLACES[:2] + [("a", "sea", None)], PLACES[:2] + [("a", "kept", None)],
                 PLACES + [("x", "sea", None)], PLACES[:2] + [("a", "gone", "hill")], PLACES[1:] + [("b", "sea", "mid")]]
        for places in wrong:
            self.assertIs(is_good(example(), ("ends", places), None), False)
            self.assertIsNone(paper_for(example(), ("ends", places)))
        for paper in PAPERS:
            self.assertIs(is_good(example(), ("ends", PLACES), paper), False)
        self.assertIs(is_good(bare(), ("ends", []), None), True)
        for river in RIVERS + [forked()]:
            self.assertIs(is_good(river, ("ends", end_places(river)[::-1]), None), True)

    def test_no_paper(self):
        for claim, _, _, _ in GOOD:
            self.assertIs(is_good(example(), claim, None), False)

    def test_wrong_arguments(self):
        for claim, error, attributes in WRONG:
            for paper in PAPERS + [None]:
                self.assertIs(is_good(example(), claim, paper), False)
            raises(self, error, attributes, paper_for, example(), claim)

    def test_claims_of_another_word(self):
        for word in ("", "Reach", "history", "land", "turn", "room", "always", "end"):
            for rest in ((), (None,), ([C], [C, A]), (A, B, C), ("b", "mid"), (PLACES,), ({}, 3)):
                for paper in PAPERS[:3] + [("history", []), ("road", None), None]:
                    self.assertIs(is_good(example(), (word, *rest), paper), False)
                raises(self, BadKind, {"kind": word}, paper_for, example(), (word, *rest))

    def test_other_kinds_of_values(self):
        kinds = [None, 0, True, "", "ab", [], (), {}, [None], ["ab"], [0], A, [A, "b"], [["a", "hill"]], [(A, "b")],
                 [("a", "hill", "mid")], [(0, 1)], [(["a"], "hill")], (A, B), [(A, B)], PLACES, [({}, "sea", None)], 1.5]
        for word in WORDS:
            good = next((claim for claim, _, _, _ in GOOD if claim[0] == word), ("ends", PLACES))
            paper = next((one for claim, one, _, _ in GOOD if claim == good), None)
            for at in range(1, len(good)):
                for kind in kinds:
                    claim = good[:at] + (kind,) + good[at + 1:]
                    self.assertIn(is_good(example(), claim, paper), (True, False))
                    if kind in (None, 0, {}) or kind == "ab":
                        self.assertIs(is_good(example(), claim, paper), False)
            for value in kinds:
                for one in ("history", "missing", "blocked", "stuck", "kept", "road", "room", "absent", "x", 0, None):
                    self.assertIn(is_good(example(), good, (one, value)), (True, False))
                self.assertIn(is_good(example(), good, value), (True, False))

    def test_claims_of_other_forms(self):
        for claim, paper, _, _ in GOOD + [ENDS + ([], None)]:
            for wrong in (claim[:1], claim[:-1] if len(claim) > 2 else claim[:1], claim + (None,), claim + claim[1:]):
                self.assertIs(is_good(example(), wrong, paper), False)
        for pair in (({}, A), (A, {}), (A, [B]), ([A], B), (A, None), ("ab", A)):
            for pairs in ([pair], [(A, B), pair]):
                self.assertIs(is_good(example(), ("orderly", pairs), ("history", END)), False)
                self.assertIs(is_good(example(), ("unorderly", pairs), ("stuck", [])), False)
        for name in ({}, [], None, 0, ("b",)):
            self.assertIs(is_good(example(), ("keeps", name, "mid"), KEPT), False)
            self.assertIs(is_good(example(), ("keeps", "b", name), KEPT), False)
            self.assertIs(is_good(example(), ("ends", PLACES[:2] + [(name, "kept", "hill")]), None), False)

    def test_nothing_is_changed(self):
        for claim, paper, _, _ in GOOD:
            fresh(self, is_good, example(), claim, paper)
            fresh(self, paper_for, example(), claim)


class Small(unittest.TestCase):
    """All claims about small rivers, with what the histories that the model walks say of them."""

    def check(self, river, claims, holds, paper):
        """Of the two opposite claims the one that holds is good with the paper."""
        for claim, answer in zip(claims, (holds, not holds)):
            self.assertIs(is_good(river, claim, paper), answer)
            same(self, paper_for(river, claim), paper if answer else None)

    def test_stages(self):
        for river in RIVERS:
            model = Model(river)
            stages = [model.ordered(done) for done in model.stages()]
            chance = random.Random(3)
            for _ in range(60):
                one, other = chance.choice(stages), chance.choice(stages)
                self.check(river, [("reach", one, other), ("apart", one, other)], set(one) <= set(other),
                           road(river, one, other))

    def test_landings(self):
        for river in RIVERS:
            model = Model(river)
            end = model.end()
            histories = [history for history, _ in model.histories()]
            for first, then in itertools.permutations(end, 2):
                must = all(first in history for history in histories if then in history)
                self.check(river, [("precedes", first, then), ("loose", first, then)], must,
                           precedence_paper(river, first, then))

    def test_pairs(self):
        for at, river in enumerate(RIVERS):
            model, chance = Model(river), random.Random(at)
            end = model.end()
            histories = [history for history, places in model.histories() if not model.free(places)]
            for _ in range(15):
                two = [landing for landing in end if len(end) > 1]
                pairs = [tuple(chance.sample(two, 2)) for _ in range(chance.randint(0, 3))] if two else []
                keeps = any(all(history.index(first) < history.index(then) for first, then in pairs)
                            for history in histories)
                self.check(river, [("orderly", pairs), ("unorderly", pairs)], keeps, order_paper(river, pairs))

    def test_wishes(self):
        for river in RIVERS:
            places = [places for _, places in Model(river).histories()]
            for thing, town in itertools.product(river.things, river.towns):
                kept = any(place[thing] == ("kept", town) for place in places)
                self.check(river, [("keeps", thing, town), ("never", thing, town)], kept, keep_paper(river, thing, town))


if __name__ == "__main__":
    unittest.main()
