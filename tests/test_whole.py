"""What the document promises over the whole program, and its worked example."""

import ast
import doctest
import pathlib
import random
import unittest

from riverkeeps import errors
from riverkeeps.book import Book, audit, replayed
from riverkeeps.deeds import land, play, replay
from riverkeeps.diaries import Diary
from riverkeeps.ends import end_places, end_stage, end_world, is_end_places, reckon
from riverkeeps.gluing import cut_out, inflow_at_end
from riverkeeps.orders import Order
from riverkeeps.pieces import Piece, filled
from riverkeeps.rivers import River
from riverkeeps.roads import guided_history
from riverkeeps.rivertext import read_river, write_river
from riverkeeps.worlds import World, read_world, write_world
from tests.helpers import bare, example, forked, same, sixty_one, two_seas
from tests.model import Model, small_rivers

PACKAGE = pathlib.Path(errors.__file__).resolve().parent
RIVERS = small_rivers(40, least=3, most=16, most_towns=5, most_things=5)
RIVERS += [example(), two_seas(), forked(), bare(), sixty_one()]
ERROR_CLASSES = [value for value in vars(errors).values() if isinstance(value, type)]

# The document writes `raises BadOrder(1)` where the example below has a traceback.
WORKED_EXAMPLE = '''
>>> from riverkeeps.rivers import River
>>> hill = ("hill", "mid", 1, ["a", "b", "c"])
>>> mid = ("mid", None, 1, ["c", "a", "b"])
>>> side = ("side", "mid", 0, ["b", "c", "a"])
>>> river = River([hill, mid, side], [("a", "hill"), ("b", "hill"), ("c", "side")])
>>> river.landings()
[('a', 'hill'), ('a', 'mid'), ('b', 'hill'), ('b', 'mid'), ('c', 'side'), ('c', 'mid')]

>>> from riverkeeps.ends import end_places, reckon
>>> end_places(river)
[('a', 'kept', 'hill'), ('b', 'sea', None), ('c', 'kept', 'mid')]
>>> reckon(river)
[('hill', ['a', 'b'], ['a'], ['b']), ('side', ['c'], [], ['c']), ('mid', ['c', 'b'], ['c'], ['b'])]

>>> from riverkeeps.listing import count_stages, layers
>>> count_stages(river)
15
>>> layers(river)
[1, 3, 4, 4, 2, 1]

>>> from riverkeeps.counting import count_histories
>>> from riverkeeps.ends import end_stage
>>> count_histories(river, [], end_stage(river))
20

>>> from riverkeeps.ahead import precedence_paper
>>> precedence_paper(river, ("a", "hill"), ("b", "mid"))
('blocked', [('b', 'hill'), ('c', 'side'), ('c', 'mid')])

>>> from riverkeeps.stages import arrival_table
>>> arrival_table(river, [("b", "hill")]) == [
...     (('a', 'hill'), 'free', 0, []), (('a', 'mid'), 'before', 0, []), (('b', 'mid'), 'lacks', 1, ['a']),
...     (('c', 'side'), 'free', 0, []), (('c', 'mid'), 'before', 0, [])]
True

>>> from riverkeeps.chains import chain
>>> chain(river, ("more", "hill"))
[('hill', None, None, 'b', None), ('mid', 'b', None, 'b', None)]
>>> chain(river, ("add", "d", "side", [("mid", 0)]))
[('side', None, 'd', None, 'd'), ('mid', None, 'd', None, 'c')]

>>> from riverkeeps.wishes import keep_paper, least_rooms, lift
>>> keep_paper(river, "b", "mid")
('kept', [('a', 'hill'), ('b', 'hill'), ('c', 'side'), ('b', 'mid')])
>>> least_rooms(river, "b", "mid")
[('mid', 1)]
>>> lift(river, "b", "mid")
[1, 0]

>>> from riverkeeps.orders import Order, trace
>>> from riverkeeps.worlds import World
>>> Order("all hill; land b")
Traceback (most recent call last):
riverkeeps.errors.BadOrder: 1
>>> trace(Order("all hill ; land b ; land b"), World(river))
([('a', 'hill'), ('b', 'hill'), ('b', 'mid')], (2,), 'kept')
'''


class Example(unittest.TestCase):

    def test_the_worked_example(self):
        found = doctest.DocTestParser().get_doctest(WORKED_EXAMPLE, {}, "example", None, 0)
        self.assertEqual(len(found.examples), 30)
        runner = doctest.DocTestRunner(verbose=False)
        runner.run(found)
        self.assertEqual(runner.failures, 0)


class OneEnd(unittest.TestCase):

    def test_every_way_leads_to_one_world(self):
        for seed, river in enumerate(RIVERS):
            end = end_world(river)
            self.assertTrue(end.ended)
            for turn in range(4):
                chance = random.Random(seed * 10 + turn)
                world, book, things = World(river), Book(river), []
                while world.free():
                    thing, _ = chance.choice(world.free())
                    world = land(world, thing)
                    book.land(thing)
                    things.append(thing)
                wish = chance.sample(river.landings(), len(river.landings()))
                histories = [guided_history(river, [], end.stage, wish=wish)]
                for reached in (world, book.present_world(), play(World(river), things),
                                replay(World(river), histories[0]), Order("settle")(World(river)),
                                replayed(river, book.log()).present_world()):
                    self.assertTrue(reached == end)
                self.assertTrue(audit(book))
                half = play(World(river), things[:len(things) // 2])
                self.assertTrue(Order("settle")(half) == end and half | end == end)

    def test_all_that_tells_of_the_end_agrees(self):
        for river in RIVERS:
            model = Model(river)
            end = model.end()
            same(self, end_stage(river), end)
            same(self, end_places(river), end_world(river).places())
            self.assertTrue(is_end_places(river, end_places(river)))
            kept = {(thing, town) for thing, kind, town in end_places(river) if kind == "kept"}
            self.assertEqual({(thing, town) for town, _, things, _ in reckon(river) for thing in things}, kept)
            self.assertEqual({(thing, town) for town, things, _, _ in reckon(river) for thing in things}, set(end))
            sea = {thing for town, _, _, things in reckon(river) for thing in things if river.after(town) is None}
            self.assertEqual({thing for thing, kind, _ in end_places(river) if kind == "sea"}, sea)

    def test_what_is_written_is_read_again(self):
        for river in RIVERS:
            self.assertTrue(read_river(write_river(river)) == river)
            self.assertTrue(read_world(river, write_world(end_world(river))) == end_world(river))

    def test_the_whole_river_as_a_piece(self):
        for river in RIVERS:
            if len([town for town in river.towns if river.after(town) is None]) == 1:
                self.assertTrue(filled(cut_out(river, river.towns), inflow_at_end(river, river.towns)) == river)


class Equal(unittest.TestCase):

    def test_values_of_other_kinds(self):
        made = [example(), World(example()), Piece([("t", None, 0, [])], []), Order(""), Book(example())]
        strange = [None, True, 0, 1, "", "land a", b"", [], (), {}, set(), 1.5, object(), len, River,
                   Diary(example(), [])]
        strange += [example().town_rows(), World(example()).stage, Order("").statements, Book(example()).log()]
        for at, one in enumerate(made):
            for other in strange + made[:at] + made[at + 1:]:
                self.assertIs(one == other, False)
                self.assertIs(other == one, False)
            self.assertIs(one == one, True)


class Errors(unittest.TestCase):

    def raised(self):
        """The names of all errors that the package raises."""
        for path in sorted(PACKAGE.glob("*.py")):
            for node in ast.walk(ast.parse(path.read_text(encoding="utf-8"))):
                if isinstance(node, ast.Raise):
                    yield node.exc.func.id

    def test_each_one_is_raised_but_those_that_never_are(self):
        names = {value.__name__ for value in ERROR_CLASSES}
        self.assertEqual(names - set(self.raised()), {"RiverError", "NotAfloat", "LandingError"})

    def test_no_class_is_above_another_one_but_those_that_the_interface_names(self):
        for one in ERROR_CLASSES:
            above = [other for other in ERROR_CLASSES if issubclass(one, other) and other is not one]
            expected = [] if one is errors.RiverError else [errors.RiverError]
            if one in (errors.ThingKept, errors.ThingAtSea):
                expected = [errors.RiverError, errors.NotAfloat]
            if one.__name__ in ("UnknownLanding", "DuplicateLanding", "NotStage", "NoHistory", "NeverDone",
                                "SameLanding", "WrongEnd"):
                expected = [errors.RiverError, errors.LandingError]
            self.assertEqual(above, expected)
            self.assertTrue(issubclass(one, ValueError))


if __name__ == "__main__":
    unittest.main()
