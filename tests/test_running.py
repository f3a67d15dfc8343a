"""Orders in all stages of a river: running.py, [76]."""

import unittest

from riverkeeps.errors import TooMany
from riverkeeps.listing import count_stages, list_stages
from riverkeeps.orders import Order
from riverkeeps.running import agree, are_alike, parting_stage, results
from riverkeeps.worlds import World
from tests.grammar import walked
from tests.helpers import A, B, C, C2, bare, example, fresh, raises, same, sixty, thirty_three, thirty_two, two_seas
from tests.model import Model, small_rivers
from tests.test_orders import random_order

RIVERS = [river for river in small_rivers(30, least=1, most=6) if count_stages(river) <= 32]
RIVERS += [example(), two_seas(), bare(), thirty_two()]


def ordered(model):
    """All stages in stage order, each with the places after it."""
    stages = [(model.ordered(done), places) for done, places in model.stages().items()]
    return sorted(stages, key=lambda one: (len(one[0]), [model.landings.index(landing) for landing in one[0]]))


def results_by_words(river, statements):
    """The pairs (stage, result) by the rule of landings and the words of [74] and [75]."""
    model = Model(river)
    found = []
    for stage, places in ordered(model):
        history, _, cause = walked(model, places, statements)
        found.append((stage, model.ordered(stage + history) if cause is None else None))
    return found


def order_of(river, seed):
    return random_order(seed, (river.things * 5 + ["x"], river.towns))


class Agree(unittest.TestCase):

    def test_answers(self):
        world = World(example(), stage=[A])
        for one, other, answer in (
                ("settle", "land c ; settle", True), ("land b ; land c", "land c ; land b", True), ("", "", True),
                ("land b", "land c", False), ("land a", "land x", True), ("land a", "while any hill { }", True),
                ("land b", "land b ; land a", False), ("land a", "", False), ("", "if any mid { land x }", True),
                ("land b ; land a", "land c ; land a", True)):
            self.assertIs(agree(world=world, one=Order(one), other=Order(other)), answer)
            self.assertIs(agree(world, Order(other), Order(one)), answer)

    def test_there_is_no_limit(self):
        self.assertIs(agree(World(sixty()), Order("settle"), Order("all t0 ; settle")), True)


class Alike(unittest.TestCase):

    def test_answers(self):
        for one, other, stage in (
                ("settle", "land c ; settle", [C, C2]), ("all hill", "each hill { land it }", None), ("", "all side", []),
                ("settle", "while not sea b { settle }", None), ("", "if full hill { land c }", [A]),
                ("land a ; land b", "land b ; land a", [B]), ("land a", "all hill", []),
                ("land x", "land a ; land a ; land a", None), ("", "if kept a hill { if kept b hill { settle } }", None),
                ("", "if kept a hill { if afloat b mid { land c } }", [A, B])):
            same(self, parting_stage(river=example(), one=Order(one), other=Order(other)), stage)
            same(self, parting_stage(example(), Order(other), Order(one)), stage)
            self.assertIs(are_alike(river=example(), one=Order(one), other=Order(other)), stage is None)

    def test_small_rivers(self):
        parted, alike = 0, 0
        for at, river in enumerate(RIVERS):
            for seed in range(12):
                (one, text), (other, other_text) = order_of(river, at * 100 + seed), order_of(river, at * 77 + seed // 2)
                expected = results_by_words(river, one)
                same(self, results(river=river, order=Order(text)), expected)
                both = [(stage, result == other_result) for (stage, result), (_, other_result)
                        in zip(expected, results_by_words(river, other))]
                first = next((stage for stage, agrees in both if not agrees), None)
                same(self, parting_stage(river, Order(text), Order(other_text)), first)
                self.assertIs(are_alike(river, Order(text), Order(other_text)), first is None)
                for stage, agrees in both[:5]:
                    self.assertIs(agree(World(river, stage=stage), Order(text), Order(other_text)), agrees)
                parted += first is not None
                alike += first is None
        self.assertGreater(min(parted, alike), 50)

    def test_results(self):
        found = results(example(), Order("land a"))
        same(self, [stage for stage, _ in found], list_stages(example()))
        same(self, found[:4], [([], [A]), ([A], None), ([B], [A, B]), ([C], [A, C])])
        same(self, results(bare(), Order("settle")), [([], [])])
        same(self, results(bare(), Order("land a")), [([], None)])

    def test_the_limit(self):
        self.assertEqual([count_stages(thirty_two()), count_stages(thirty_three())], [32, 33])
        order = Order("settle")
        self.assertEqual(len(results(thirty_two(), order)), 32)
        self.assertIs(are_alike(thirty_two(), order, order), True)
        self.assertIsNone(parting_stage(thirty_two(), order, order))
        for river in (thirty_three(), sixty()):
            for other in (order, Order("settle"), Order("land x"), Order("land a")):
                raises(self, TooMany, {"limit": 32}, parting_stage, river, order, other)
                raises(self, TooMany, {"limit": 32}, are_alike, river, order, other)
                raises(self, TooMany, {"limit": 32}, results, river, other)

    def test_nothing_is_changed(self):
        fresh(self, results, example(), Order("land a"))
        fresh(self, parting_stage, example(), Order("land a"), Order("settle"))


if __name__ == "__main__":
    unittest.main()
