"""The names and signatures of the interface, each defined in the file under which it is listed."""

import importlib
import inspect
import unittest

FUNCTIONS = {
    "riverkeeps.names": [
        "is_name(text)", "check_name(text)", "first_duplicate(items)", "is_liking(liking, things)",
        "rank(liking, thing)", "best(liking, things, many)", "excess(liking, things, many)",
        "restrict(liking, things)", "dropped(liking, thing)", "inserted(liking, thing, at)", "exchanged(liking, at)",
    ],
    "riverkeeps.rivertext": ["write_river(river)", "read_river(text)", "is_river_text(text)"],
    "riverkeeps.riverparts": [
        "renamed(river, *, towns=(), things=())", "upstream(river, town)", "downstream(river, town)",
        "confluence(river, one, other)", "upstream_order(river)", "basin(river, town)", "only_things(river, things)",
    ],
    "riverkeeps.flow": [
        "landing_before(river, landing)", "is_open(river, landings, landing)", "greatest_within(river, landings)",
        "in_order(river, landings)",
    ],
    "riverkeeps.worlds": [
        "stage_of_places(river, places)", "write_world(world)", "read_world(river, text)",
    ],
    "riverkeeps.deeds": [
        "refusal(world, thing)", "land(world, thing)", "landing_report(world, thing)", "play(world, things)",
        "history_of(world, things)", "replay(world, history)", "is_history(world, history, *, goal=None)",
        "middle(world, history, at)", "can_exchange(world, history, at)", "exchange_path(world, one, other)",
        "is_exchange_path(world, one, other, path)", "town_record(world, history, town)",
    ],
    "riverkeeps.stages": [
        "is_stage(river, landings)", "free_landings(river, stage)", "union(river, one, other)",
        "meet(river, one, other)", "greatest_stage(river, *, within=None, without=())", "left_out(river, within)",
        "is_greatest(river, within, stage)", "arrival_table(river, stage)", "removable(river, stage)",
        "covering(river, stage)",
    ],
    "riverkeeps.roads": [
        "least_history(river, one, other)", "guided_history(river, one, other, *, wish=())",
        "deeds_between(river, one, other)", "road(river, one, other)", "is_road(river, one, other, paper)",
    ],
    "riverkeeps.ahead": [
        "must_precede(river, first, then)", "precedence_paper(river, first, then)",
        "is_precedence_paper(river, first, then, paper)", "needed_before(river, landing)", "precedences(river)",
        "order_paper(river, pairs)", "is_order_paper(river, pairs, paper)",
    ],
    "riverkeeps.ends": [
        "end_stage(river)", "end_world(river)", "end_places(river)", "reckon(river)", "is_end_places(river, places)",
        "leaving(river, town)", "room_left(river, town)", "deeds_left(world)",
    ],
    "riverkeeps.turns": ["turned(river, turn)", "inverse(river, turn)"],
    "riverkeeps.chains": [
        "chain(river, turn)", "is_chain(river, turn, rows)", "end_by_chain(river, turn)", "moved(river, turn)",
    ],
    "riverkeeps.listing": [
        "list_stages(river, *, low=(), high=None, limit=400)", "count_stages(river, *, low=(), high=None)",
        "layers(river)", "stage_number(river, stage)", "stage_at(river, number)", "root_stages(river, landing)",
        "roots_within(river, stage)",
    ],
    "riverkeeps.counting": [
        "count_histories(river, one, other)", "history_number(river, one, other, history)",
        "history_at(river, one, other, number)", "each_history(river, one, other)",
    ],
    "riverkeeps.wishes": [
        "may_keep(river, thing, town)", "must_keep(river, thing, town)", "keep_paper(river, thing, town)",
        "is_keep_paper(river, thing, town, paper)", "must_paper(river, thing, town)",
        "is_must_paper(river, thing, town, paper)", "kept_together(river, pairs)",
        "is_kept_together(river, pairs, stage)", "least_rooms(river, thing, town, *, most=1)",
        "grants(river, thing, town, change)", "lift(river, thing, town)",
    ],
    "riverkeeps.pieces": ["filled(piece, inflow)", "outflow(piece, inflow)", "inflows(piece)", "outflow_table(piece)"],
    "riverkeeps.gluing": [
        "cut_out(river, towns)", "inflow_at_end(river, towns)", "joined(upper, lower, mouth)",
        "put_in(river, towns, piece)",
    ],
    "riverkeeps.alike": [
        "are_comparable(one, other)", "alike(one, other)", "telling_inflow(one, other)",
        "is_telling(one, other, inflow)", "telling_rivers(one, other)", "smaller(piece)", "is_simple(piece)",
        "simply_alike(one, other)",
    ],
    "riverkeeps.diaries": ["holds(world, sighting)", "is_fit(diary, stages)", "simple_fit(diary)"],
    "riverkeeps.fits": [
        "least_fit(diary)", "first_unfit(diary)", "count_fits(diary)", "fit_at(diary, number)",
        "possible_stages(diary, at)", "may_hold(diary, at, sighting)", "must_hold(diary, at, sighting)",
        "least_wrong(diary, *, most=2)", "is_wrong_set(diary, addresses)",
    ],
    "riverkeeps.partial": [
        "completions(river, known, *, limit=60)", "may_end(river, known, thing)", "must_end(river, known)",
        "sure_landings(river, known)", "possible_landings(river, known)",
    ],
    "riverkeeps.orders": ["plain(order)", "trace(order, world)"],
    "riverkeeps.running": [
        "agree(world, one, other)", "parting_stage(river, one, other)", "are_alike(river, one, other)",
        "results(river, order)",
    ],
    "riverkeeps.claims": ["is_good(river, claim, paper)", "paper_for(river, claim)"],
    "riverkeeps.book": [
        "replayed(river, log)", "audit(book)", "compare(one, other)", "deeds_of(book, word)",
    ],
}

CONSTANTS = {
    "riverkeeps.names": {"MAX_TOWNS": 8, "MAX_THINGS": 10, "MAX_ROOM": 99, "MAX_NAME": 8},
    "riverkeeps.ahead": {"MAX_AHEAD": 24},
    "riverkeeps.listing": {"MAX_STAGES": 400},
    "riverkeeps.counting": {"MAX_HISTORIES": 200},
    "riverkeeps.pieces": {"MAX_INFLOWS": 256},
    "riverkeeps.diaries": {"MAX_DIARY_STAGES": 60},
    "riverkeeps.orders": {"MAX_WORDS": 200, "MAX_DEPTH": 6},
    "riverkeeps.running": {"MAX_ORDER_STAGES": 32},
}

METHODS = {
    ("riverkeeps.rivers", "River"): [
        "__init__(self, towns, things)", "after(self, town)", "room(self, town)", "liking(self, town)",
        "feeders(self, town)", "springs(self, town)", "spring(self, thing)", "path(self, thing)",
        "prefers(self, town, one, other)", "town_rows(self)", "thing_rows(self)", "landings(self)",
        "landing_number(self, landing)", "__eq__(self, other)",
    ],
    ("riverkeeps.worlds", "World"): [
        "__init__(self, river, *, stage=())", "place(self, thing)", "places(self)", "kept(self, town)",
        "landed(self, town)", "ahead(self, town)", "at_sea(self)", "free(self)", "__len__(self)", "__iter__(self)",
        "__contains__(self, landing)", "__or__(self, other)", "__eq__(self, other)",
    ],
    ("riverkeeps.pieces", "Piece"): [
        "__init__(self, towns, things, *, mouths=(), foreign=())", "town_rows(self)", "thing_rows(self)",
        "__eq__(self, other)",
    ],
    ("riverkeeps.diaries", "Diary"): ["__init__(self, river, entries)", "__len__(self)"],
    ("riverkeeps.orders", "Order"): [
        "__init__(self, text)", "__call__(self, world)", "__len__(self)", "__eq__(self, other)",
    ],
    ("riverkeeps.book", "Book"): [
        "__init__(self, river)", "first_river(self)", "present_river(self)", "present_world(self)",
        "land(self, thing)", "land_all(self, things)", "run(self, order)", "turn(self, turn)",
        "file(self, claim, paper)", "claims(self)", "standing(self)", "undo(self)", "log(self)", "twin(self)",
        "__len__(self)", "__eq__(self, other)",
    ],
}

PROPERTIES = {
    ("riverkeeps.rivers", "River"): ["towns", "things"],
    ("riverkeeps.worlds", "World"): ["stage", "ended"],
    ("riverkeeps.pieces", "Piece"): ["towns", "things", "mouths", "foreign", "outlet"],
    ("riverkeeps.diaries", "Diary"): ["entries"],
    ("riverkeeps.orders", "Order"): ["text", "statements"],
}


class Interface(unittest.TestCase):

    def test_functions(self):
        for module, signatures in FUNCTIONS.items():
            for signature in signatures:
                function = vars(importlib.import_module(module))[signature.split("(")[0]]
                with self.subTest(module, signature=signature):
                    self.assertEqual(function.__name__ + str(inspect.signature(function)), signature)
                    self.assertEqual(function.__module__, module)

    def test_the_generator_function(self):
        from riverkeeps.counting import each_history
        self.assertTrue(inspect.isgeneratorfunction(each_history))

    def test_constants(self):
        for module, constants in CONSTANTS.items():
            for name, value in constants.items():
                self.assertEqual(repr(vars(importlib.import_module(module))[name]), repr(value))

    def test_methods_stand_in_the_class_itself(self):
        for (module, name), signatures in METHODS.items():
            made = vars(importlib.import_module(module))[name]
            self.assertEqual(made.__module__, module)
            for signature in signatures:
                method = vars(made)[signature.split("(")[0]]
                with self.subTest(name, signature=signature):
                    self.assertEqual(method.__name__ + str(inspect.signature(method)), signature)

    def test_properties_stand_in_the_class_itself(self):
        for (module, name), properties in PROPERTIES.items():
            made = vars(importlib.import_module(module))[name]
            for word in properties:
                self.assertIsInstance(vars(made)[word], property)


if __name__ == "__main__":
    unittest.main()
