"""Histories from one stage to another: counting.py, [46]."""

import inspect
import itertools
import math
import unittest

from riverkeeps.counting import count_histories, each_history, history_at, history_number
from riverkeeps.errors import BadNumber, DeedRefused, NoHistory, TooMany, WrongEnd
from riverkeeps.rivers import River
from riverkeeps.roads import least_history
from tests.helpers import (
    A, A2, B, B2, C, C2, END, WRONG_STAGES, bare, example, forked, fresh, raises, same, two_seas, wrong)
from tests.model import Model, small_rivers
from tests.test_listing import just_enough, product_river

RIVERS = small_rivers(12, least=3, most=6) + [example(), two_seas(), bare()]

# Two stages of this river have exactly 200 histories between them, and two of the next one exactly 201.
TWO_HUNDRED = River(
    [("t0", "t4", 1, ["h2", "h4", "h1", "h3", "h0"]), ("t1", "t4", 1, ["h0", "h3", "h2", "h4", "h1"]),
     ("t2", None, 1, ["h2", "h3", "h0", "h4", "h1"]), ("t3", "t2", 1, ["h3", "h4", "h2", "h1", "h0"]),
     ("t4", "t2", 2, ["h0", "h3", "h2", "h1", "h4"])],
    [("h0", "t0"), ("h1", "t0"), ("h2", "t0"), ("h3", "t0"), ("h4", "t0")])
ONE_MORE = River(
    [("t0", "t1", 1, ["h4", "h1", "h0", "h3", "h5", "h2"]), ("t1", "t3", 1, ["h2", "h5", "h4", "h3", "h1", "h0"]),
     ("t2", None, 0, ["h4", "h2", "h1", "h5", "h0", "h3"]), ("t3", "t2", 1, ["h2", "h0", "h1", "h3", "h4", "h5"]),
     ("t4", "t0", 3, ["h5", "h3", "h2", "h1", "h0", "h4"])],
    [("h0", "t0"), ("h1", "t3"), ("h2", "t3"), ("h3", "t1"), ("h4", "t1"), ("h5", "t0")])


def numbered(river, numbers):
    return [river.landings()[number] for number in numbers]


def walks(model, one, other):
    """All histories between two stages, in the order of [46], walked by the rule of [18]."""
    def walk(history, places):
        if len(history) == len(other) - len(one):
            found.append(history)
            return
        for landing in model.free(places):
            if landing in other:
                walk(history + [landing], model.land(places, landing[0])[0])
    found = []
    walk([], model.stages()[frozenset(one)])
    return found


class Shared(unittest.TestCase):

    calls = [(count_histories, ()), (history_number, ([("x", "y")],)), (history_at, (-1,)),
             (lambda *args: list(each_history(*args)), ())]

    def test_wrong_stages(self):
        for call, behind in self.calls:
            wrong(self, WRONG_STAGES, call, [A2, A2], *behind)
            for error, landing, landings in WRONG_STAGES:
                raises(self, error, {"landing": landing}, call, example(), [A], landings, *behind)

    def test_no_history(self):
        large = product_river(8, 8, 4)
        for call, behind in self.calls:
            raises(self, NoHistory, {"landing": A}, call, example(), (C2, C, A), [C], *behind)
            raises(self, NoHistory, {"landing": C}, call, example(), [C2, C], [], *behind)
            raises(self, NoHistory, {"landing": ("h0", "t0")}, call, large, [("h0", "t0")], [], *behind)

    def test_too_many_stages(self):
        large = product_river(8, 8, 4)
        end = Model(large).end()
        for call, behind in self.calls:
            raises(self, TooMany, {"limit": 400}, call, large, [], end, *behind)
            raises(self, TooMany, {"limit": 400}, call, large, (), tuple(end[::-1]), *behind)
        # Only the stages between the two stages count.
        most = [landing for landing in end if landing != ("h0", "t0")][-12:]
        same(self, count_histories(large, [], most), math.comb(12, 4))
        # Exactly 400 of them.
        river = product_river(7, 4, 4, 1)
        end = Model(river).end()
        many = math.factorial(16) // (math.factorial(7) * math.factorial(4) ** 2)
        same(self, count_histories(river, [], end), many)
        same(self, history_at(river, [], end, 0), least_history(river, [], end))
        last = history_at(river, [], end, many - 1)
        same(self, last, [landing for thing in ("h3", "h2", "h1", "h0") for landing in end if landing[0] == thing])
        same(self, history_number(river, [], end, last), many - 1)
        raises(self, TooMany, {"limit": 200}, lambda: list(each_history(river, [], end)))

    def test_all_histories_of_small_rivers(self):
        for river in RIVERS:
            model = Model(river)
            for one in list(model.stages())[:12]:
                onward = model.onward(one)
                for other, histories in onward.items():
                    start, goal = sorted(one), sorted(other, reverse=True)
                    same(self, count_histories(river, start, goal), len(histories))
                    same(self, list(each_history(river, start, goal))[:200], histories)
                    for number, history in enumerate(histories):
                        same(self, history_at(river, start, goal, number), history)
                        same(self, history_number(river, start, goal, history), number)
                    for number in (-1, len(histories)):
                        raises(self, BadNumber, {"number": number}, history_at, river, start, goal, number)

    def test_larger_rivers(self):
        for river in (forked(), TWO_HUNDRED, just_enough()):
            model = Model(river)
            end = model.end()
            stage = model.ordered(least_history(river, [], end)[:-6])
            histories = walks(model, stage, end)
            same(self, count_histories(river, stage, end), len(histories))
            for number in range(0, len(histories), 1 + len(histories) // 40):
                same(self, history_at(river, stage, end, number), histories[number])
                same(self, history_number(river, stage, end, histories[number]), number)

    def test_nothing_is_changed(self):
        fresh(self, count_histories, example(), [C], [B, C2, C])
        fresh(self, history_number, example(), [C], [B, C2, C], [B, C2])
        fresh(self, history_at, example(), [C], [B, C2, C], 1)
        fresh(self, lambda *args: list(each_history(*args)), example(), [C], [B, C2, C])


class CountHistories(unittest.TestCase):

    def test_answers(self):
        same(self, count_histories(example(), [], END), 20)
        same(self, count_histories(river=example(), one=(C,), other=(C2, C, B)), 2)
        same(self, count_histories(example(), END, END), 1)
        same(self, count_histories(bare(), [], ()), 1)


class HistoryNumber(unittest.TestCase):

    def test_answers(self):
        same(self, history_number(example(), [], END, [A, B, B2, C, C2]), 0)
        same(self, history_number(river=example(), one=[], other=END, history=(C, C2, B, A, B2)), 19)
        same(self, history_number(example(), END, END, []), 0)
        same(self, history_number(bare(), [], [], ()), 0)

    def test_refused_histories(self):
        for history, at, cause in [([A, A], 1, "kept"), ([("x", "y")], 0, "unknown"), ([A, B, B2, B2], 3, "kept"),
                                   ([B2], 0, "elsewhere"), ([("a", "x")], 0, "elsewhere"), ([("", "")], 0, "unknown"),
                                   ([A, B, B2, C, C2, B2], 5, "sea")]:
            raises(self, DeedRefused, {"at": at, "cause": cause}, history_number, example(), [], END, history)
            raises(self, DeedRefused, {"at": at, "cause": cause}, history_number, example(), [], END, tuple(history))
        raises(self, DeedRefused, {"at": 0, "cause": "kept"}, history_number, example(), [A], END, [A, B, B2, C, C2])

    def test_histories_that_lead_elsewhere(self):
        for history, landing in [([], A), ([A, B, C, C2], B2), ([B, C, C2], A), ([A, C, B, B2], C2)]:
            raises(self, WrongEnd, {"landing": landing}, history_number, example(), [], END, history)
        raises(self, WrongEnd, {"landing": A}, history_number, example(), [C], [C, A], [B, C2])
        raises(self, WrongEnd, {"landing": B}, history_number, example(), [], (C, A), (A, C, B))
        raises(self, WrongEnd, {"landing": C2}, history_number, example(), (), [C], [C, C2])
        raises(self, WrongEnd, {"landing": A}, history_number, example(), [], [A, C], (C, B))


class HistoryAt(unittest.TestCase):

    def test_answers(self):
        same(self, history_at(example(), [], END, 0), [A, B, B2, C, C2])
        same(self, history_at(river=example(), one=(), other=tuple(END), number=19), [C, C2, B, A, B2])
        same(self, history_at(example(), [C], [C, B, C2], 1), [C2, B])
        same(self, history_at(example(), END, END, 0), [])
        same(self, history_at(bare(), [], [], 0), [])

    def test_wrong_numbers(self):
        for number in (-1, 20, True, False, 10 ** 59, -10 ** 59):
            raises(self, BadNumber, {"number": number}, history_at, example(), [], END, number)
        for number in (1, -1, False):
            raises(self, BadNumber, {"number": number}, history_at, example(), END, END, number)


class EachHistory(unittest.TestCase):

    def test_it_is_a_generator(self):
        made = each_history(river=example(), one=[], other=END)
        self.assertTrue(inspect.isgenerator(made))
        same(self, next(made), [A, B, B2, C, C2])
        same(self, next(made), [A, B, C, B2, C2])
        self.assertEqual(len(list(made)), 18)
        self.assertEqual(list(made), [])
        same(self, list(each_history(bare(), [], [])), [[]])
        same(self, list(each_history(example(), END, END)), [[]])

    def test_its_order(self):
        histories = list(each_history(example(), (), tuple(END)))
        same(self, histories, walks(Model(example()), [], END))
        self.assertEqual(histories, sorted(histories, key=lambda history: list(map(END.index, history))))

    def test_nothing_is_checked_before_the_first_history(self):
        large = product_river(8, 8, 4)
        for error, attributes, args in [
                (NoHistory, {"landing": A}, (example(), [A], [])),
                (TooMany, {"limit": 400}, (large, [], Model(large).end())),
                (TooMany, {"limit": 200}, (product_river(6, 4), [], Model(product_river(6, 4)).end()))]:
            made = each_history(*args)
            raises(self, error, attributes, next, made)
            self.assertEqual(list(made), [])
        made = each_history(example(), [A], [A, A])
        with self.assertRaises(ValueError):
            next(made)

    def test_the_limit(self):
        one, other = numbered(TWO_HUNDRED, [0]), numbered(TWO_HUNDRED, [0, 1, 3, 6, 9, 12, 13])
        same(self, count_histories(TWO_HUNDRED, one, other), 200)
        same(self, list(each_history(TWO_HUNDRED, one, other)), walks(Model(TWO_HUNDRED), one, other))
        one, other = numbered(ONE_MORE, [0]), numbered(ONE_MORE, [0, 6, 8, 9, 10, 11, 14, 15])
        same(self, count_histories(ONE_MORE, one, other), 201)
        raises(self, TooMany, {"limit": 200}, next, each_history(ONE_MORE, one, other))
        self.assertEqual(len(walks(Model(ONE_MORE), one, other)), 201)

    def test_a_change_before_the_first_history_is_seen(self):
        one, other = [C], [C, A, B]
        made = each_history(example(), one, other)
        one.append(C2)
        other.append(C2)
        same(self, list(made), [[A, B], [B, A]])
        made = each_history(example(), one, other)
        one.append(A2)
        with self.assertRaises(ValueError):
            next(made)
        made = each_history(example(), one, other)
        one.pop()
        same(self, next(made), [A, B])

    def test_a_change_behind_the_first_history_has_no_effect(self):
        one, other = [C], [C, A, B, C2]
        made = each_history(example(), one, other)
        first = next(made)
        one.clear()
        other[:] = [("x", "y")]
        same(self, [first] + list(made), walks(Model(example()), [C], [C, A, B, C2]))

    def test_a_changed_answer_has_no_effect(self):
        expected = walks(Model(example()), [], END)
        found = []
        for history in each_history(example(), [], END):
            found.append(list(history))
            history.clear()
            history.append("spoiled")
        same(self, found, expected)
        held = list(each_history(example(), [], END))
        self.assertEqual(len({id(history) for history in held}), 20)

    def test_two_walks_at_once(self):
        river, one, other = example(), [], END
        pairs = list(itertools.zip_longest(each_history(river, one, other), each_history(river, one, other)))
        self.assertTrue(all(first == second and first is not second for first, second in pairs))


if __name__ == "__main__":
    unittest.main()
