"""Orders: orders.py, [71] to [75] and [77]."""

import copy
import unittest

from riverkeeps.errors import BadCount, BadOrder, OrderRefused
from riverkeeps.orders import Order, plain, trace
from riverkeeps.rivers import River
from riverkeeps.worlds import World
from tests.grammar import bad_at, random_statements, seeded, walked, words_of
from tests.helpers import (
    A, B, B2, C, C2, END, EXAMPLE_THINGS, HILL, bare, example, forked, lists_in, raises, same, spoil, two_seas)
from tests.model import Model, small_rivers

RIVERS = small_rivers(20, least=2, most=8) + [example(), two_seas(), forked()]
# The words of the grammar, names, and words that are no names.
VOCABULARY = """land all settle while until if each else afloat kept sea any full not { } ; it a b t0 {} a; A 9a
    longername""".split()
ALL = """land a ; all hill ; settle ; while any hill { land b } ; until full mid { } ;
    if afloat a hill { land a } else { land c ; settle } ; if kept b mid { } ; each side { land it ; each hill { } } ;
    while not not sea c { }"""


def random_order(seed, names=None):
    """The statements of a random order, and a text of it with an `else` too many and all kinds of spaces."""
    chance = seeded(seed)
    while True:
        statements = random_statements(chance, names or (["a", "b", "land"], ["t0", "t1", "any"]))
        words = words_of(statements, chance)
        if len(words) <= 200:
            break
    spaces = [" ", " ", "\n", "  ", " \n ", "\n\n"]
    text = "".join(word + chance.choice(spaces) for word in words)
    return statements, chance.choice(["", " ", "\n"]) + text


def all_of(statements):
    found = []
    for statement in statements:
        found.append(statement)
        for part in statement[1:]:
            found += all_of(part) if isinstance(part, list) else []
    return found


def condition_of(asked):
    """The condition of a `while`, read from its words."""
    return Order(f"while {asked} {{ }}").statements[0][1]


def blocks(depth, inner=""):
    """So many blocks inside of each other, and what stands in the innermost one."""
    return "while any t { " * depth + inner + " }" * depth


class Texts(unittest.TestCase):

    def test_every_statement(self):
        order = Order(text=ALL)
        same(self, order.statements, [
            ("land", "a"), ("all", "hill"), ("settle",), ("while", ("any", "hill"), [("land", "b")]),
            ("until", ("full", "mid"), []),
            ("if", ("afloat", "a", "hill"), [("land", "a")], [("land", "c"), ("settle",)]),
            ("if", ("kept", "b", "mid"), [], []), ("each", "side", [("land", "it"), ("each", "hill", [])]),
            ("while", ("not", ("not", ("sea", "c"))), [])])
        same(self, order.text, " ".join(ALL.split()))
        same(self, len(order), 15)

    def test_every_condition(self):
        for words, condition in (
                ("afloat a t", ("afloat", "a", "t")), ("kept a t", ("kept", "a", "t")), ("sea a", ("sea", "a")),
                ("any t", ("any", "t")), ("full t", ("full", "t")), ("not any t", ("not", ("any", "t"))),
                ("not not not sea a", ("not", ("not", ("not", ("sea", "a")))))):
            same(self, condition_of(words), condition)
            for word in ("while", "until"):
                same(self, Order(f"{word} {words} {{ settle }}").statements, [(word, condition, [("settle",)])])
            same(self, Order(f"if {words} {{ settle }}").statements, [("if", condition, [("settle",)], [])])

    def test_the_empty_order(self):
        for text in ("", " ", "\n", "  \n \n"):
            same(self, Order(text).statements, [])
            same(self, Order(text).text, "")
            same(self, len(Order(text)), 0)

    def test_spaces_and_newlines(self):
        same(self, Order("\n\n  land   a\n;\nall \n t  ").text, "land a ; all t")
        same(self, Order("each t{".replace("{", " {") + "\nland\nit\n}\n").text, "each t { land it }")

    def test_words_of_the_grammar_as_names(self):
        for word in "land all settle while until if each else afloat kept any full not a h0 z9999999".split():
            same(self, Order(f"land {word} ; all {word}").statements, [("land", word), ("all", word)])
            same(self, Order(f"each {word} {{ land {word} ; land it }}").statements,
                 [("each", word, [("land", word), ("land", "it")])])
            for asked in ("afloat", "kept"):
                same(self, condition_of(f"{asked} {word} {word}"), (asked, word, word))
            same(self, condition_of(f"not sea {word}"), ("not", ("sea", word)))
            same(self, condition_of(f"full {word}"), ("full", word))

    def test_it(self):
        order = Order("each t { if afloat it t { while kept it u { land it } } else { until not sea it { land it } } }")
        same(self, order.statements, [("each", "t", [(
            "if", ("afloat", "it", "t"), [("while", ("kept", "it", "u"), [("land", "it")])],
            [("until", ("not", ("sea", "it")), [("land", "it")])])])])
        for text, at in (("land it", 1), ("while sea it { }", 2), ("if afloat it t { }", 2), ("until kept it t { }", 2),
                         ("while not not sea it { }", 4), ("each it { }", 1), ("each t { } ; land it", 6),
                         ("each t { each it { } }", 4), ("each t { all it }", 4), ("each t { while any it { } }", 5),
                         ("each t { while full it { } }", 5), ("each t { while kept a it { } }", 6),
                         ("if any t { land it }", 5), ("each t { } ; if any t { } else { land it }", 13)):
            raises(self, BadOrder, {"at": at}, Order, text)

    def test_blocks_without_a_statement_behind_a_semicolon(self):
        for text, at in (("land a ;", 3), ("; land a", 0), ("land a ; ; land b", 3), ("each t { ; }", 3),
                         ("each t { settle ; }", 5), (";", 0), ("settle settle", 1), ("settle ; ; ", 2)):
            raises(self, BadOrder, {"at": at}, Order, text)

    def test_words_that_cannot_stand(self):
        for text, at in (
                ("land", 1), ("all", 1), ("each", 1), ("each t", 2), ("each t {", 3), ("while", 1), ("until not", 2),
                ("if any t { }  else", 6), ("if any t { } else {", 7), ("if any t", 3), ("while afloat a { }", 3),
                ("while sea a t { }", 3), ("go", 0), ("}", 0), ("settle }", 1), ("else { }", 0), ("settle else { }", 1),
                ("while any t { } else { }", 5), ("if any t { } else { } else { }", 8), ("land sea", 1), ("all sea", 1),
                ("land A", 1), ("land abcdefghi", 1), ("land 9a", 1), ("land {", 1), ("each t { land a", 5),
                ("all hill; land b", 1), ("land a;", 1), ("each t {}", 2), ("not any t { }", 0), ("if settle { }", 1),
                ("if { }", 1), ("land a b", 2), ("Settle", 0)):
            raises(self, BadOrder, {"at": at}, Order, text)

    def test_blocks_in_blocks(self):
        same(self, len(Order(blocks(6))), 6)
        same(self, len(Order(blocks(6, "settle ; land a"))), 8)
        # Each block but the innermost ones adds the four words `while any t {`.
        raises(self, BadOrder, {"at": 27}, Order, blocks(7))
        raises(self, BadOrder, {"at": 27}, Order, blocks(9))
        raises(self, BadOrder, {"at": 27}, Order, "while any t { " * 7)
        # The words ahead of the seventh block can stand, and what stands in its place is at fault as ever.
        raises(self, BadOrder, {"at": 27}, Order, blocks(6, "while any t"))
        raises(self, BadOrder, {"at": 26}, Order, blocks(6, "each t { }"))
        raises(self, BadOrder, {"at": 27}, Order, blocks(5, "if any t { if sea a { } }"))
        raises(self, BadOrder, {"at": 31}, Order, blocks(5, "if any t { settle } else { if any t { } }"))
        same(self, len(Order(blocks(5, "if any t { } else { settle } ; each t { settle }"))), 9)

    def test_the_number_of_words(self):
        same(self, len(Order("land a" + " ; settle" * 99)), 100)
        same(self, len(Order("settle" + " ; settle" * 99)), 100)
        raises(self, BadCount, {"what": "words", "many": 201}, Order, "settle" + " ; settle" * 100)
        raises(self, BadCount, {"what": "words", "many": 202}, Order, "\n land a" + "\n; settle" * 100 + "\n")
        # The count is made before a word is read.
        raises(self, BadCount, {"what": "words", "many": 201}, Order, "} " * 201)
        raises(self, BadOrder, {"at": 0}, Order, "} " * 200)
        raises(self, BadOrder, {"at": 200}, Order, "settle ; " * 100)
        raises(self, BadOrder, {"at": 200}, Order, "while " + "not " * 199)
        same(self, Order("while " + "not " * 195 + "any t { }").text, "while " + "not " * 195 + "any t { }")
        # A text of 20,000 characters.
        same(self, len(Order("settle" + " " * 19987 + "\n" * 7)), 1)

    def test_random_words_against_the_grammar(self):
        found = {}
        for seed in range(1500):
            chance = seeded(seed)
            words = random_order(seed)[1].split()[:60]
            for _ in range(chance.randint(0, 2)):
                at = chance.randint(0, len(words))
                words[at:at + chance.randint(0, 1)] = [chance.choice(VOCABULARY)] * chance.randint(0, 1)
            at = bad_at(words)
            found[at is None] = found.get(at is None, 0) + 1
            if at is None:
                same(self, Order(" ".join(words)).text.split(), words_of(Order(" ".join(words)).statements))
            else:
                raises(self, BadOrder, {"at": at}, Order, " ".join(words))
        self.assertGreater(min(found.values()), 300)

    def test_short_rows_of_words_against_the_grammar(self):
        small = ["land", "if", "each", "else", "any", "not", "{", "}", ";", "it"]
        rows = [[]]
        for _ in range(4):
            rows = [row + [word] for row in rows for word in small]
            for row in rows:
                at = bad_at(row)
                if at is None:
                    Order(" ".join(row))
                else:
                    raises(self, BadOrder, {"at": at}, Order, " ".join(row))
            # What is at fault already stays so.
            rows = [row for row in rows if bad_at(row) in (None, len(row))]


class Canonical(unittest.TestCase):

    def test_else_with_an_empty_block(self):
        for text, canonical in (
                ("if any t { } else { }", "if any t { }"),
                ("if any t { if any u { } else { } } else { }", "if any t { if any u { } }"),
                ("if any t { } else { if any u { } else { } }", "if any t { } else { if any u { } }"),
                ("each t { while any t { if sea it { land it } else { } } }",
                 "each t { while any t { if sea it { land it } } }"),
                ("if any t { } else { settle }", "if any t { } else { settle }")):
            same(self, Order(text).text, canonical)
            self.assertTrue(Order(text) == Order(canonical))
            same(self, Order(text).statements, Order(canonical).statements)

    def test_random_orders(self):
        for seed in range(300):
            statements, text = random_order(seed)
            order = Order(text)
            same(self, order.statements, statements)
            same(self, order.text, " ".join(words_of(statements)))
            same(self, len(order), len(all_of(statements)))
            again = Order(order.text)
            self.assertTrue(order == again and again == order)
            same(self, again.text, order.text)

    def test_equal(self):
        orders = [Order(text) for text in ("", "settle", "settle ; settle", "land a", "all a", "while any t { }",
                                           "until any t { }", "while not any t { }", "if any t { }",
                                           "if any t { } else { settle }", "if not not any t { }")]
        for at, one in enumerate(orders):
            for other_at, other in enumerate(orders):
                self.assertIs(one == other, at == other_at)
        for other in (None, 0, "", "settle", [], orders[1].statements, example(), World(example())):
            self.assertIs(orders[1] == other, False)
            self.assertIs(orders[0] == other, False)

    def test_what_is_returned_may_be_changed(self):
        order = Order(ALL)
        told = order.statements
        expected = copy.deepcopy(told)
        found = lists_in(told)
        self.assertEqual(len({id(one) for one in found}), len(found))
        spoil(told)
        same(self, order.statements, expected)
        same(self, len(order), 15)
        same(self, order.text, " ".join(ALL.split()))


class Plain(unittest.TestCase):

    def test_answers(self):
        for text, expected in (
                ("until any t { }", "while not any t { }"), ("until not any t { }", "while any t { }"),
                ("until not not any t { }", "while not any t { }"), ("while not not any t { }", "while any t { }"),
                ("if not not not sea a { }", "if not sea a { }"), ("if not not not not sea a { }", "if sea a { }"),
                ("each t { until full t { if not not sea it { settle } else { until sea it { } } } }",
                 "each t { while not full t { if sea it { settle } else { while not sea it { } } } }"),
                ("", ""), ("settle ; land a", "settle ; land a"), ("until any until { }", "while not any until { }"),
                ("while any t { until any t { } }", "while any t { while not any t { } }")):
            made = plain(order=Order(text))
            self.assertIsInstance(made, Order)
            same(self, made.text, expected)
            self.assertTrue(plain(made) == made)

    def test_random_orders_run_the_same(self):
        refused = 0
        for seed in range(400):
            river = RIVERS[seed % len(RIVERS)]
            order = Order(random_order(seed, (river.things + ["x"], river.towns))[1])
            made = plain(order)
            self.assertNotIn(("until"), [statement[0] for statement in all_of(made.statements)])
            self.assertNotIn("not not", made.text)
            same(self, trace(made, World(river)), trace(order, World(river)))
            refused += trace(made, World(river))[1] is not None
        self.assertGreater(refused, 100)

    def test_too_many_words(self):
        text = " ; ".join(["until any t { }"] * 33)
        self.assertEqual(len(text.split()), 197)
        raises(self, BadCount, {"what": "words", "many": 230}, plain, Order(text))
        # The plain form of 28 such loops has 195 words.
        many = " ; ".join(["until any t { }"] * 28)
        self.assertEqual(len(plain(Order(many)).text.split()), 195)
        self.assertEqual(len(plain(Order(many + " ; land a ; settle")).text.split()), 200)
        raises(self, BadCount, {"what": "words", "many": 201}, plain, Order(many + " ; land a ; all t"))
        raises(self, BadCount, {"what": "words", "many": 202}, plain, Order(many + " ; until sea a { }"))
        # An `else` that is left out of the canonical text does not count.
        long = " ; ".join(["if any t { } else { }"] * 21 + ["until any t { }"])
        self.assertEqual(len(plain(Order(long)).text.split()), 21 * 6 + 6)


class Runs(unittest.TestCase):

    def runs(self, text, history, spot=None, cause=None, world=None):
        world = World(example()) if world is None else world
        order = Order(text)
        same(self, trace(order, world), (history, spot, cause))
        if spot is None:
            reached = order(world)
            self.assertIsInstance(reached, World)
            self.assertTrue(reached == World(world.river, stage=world.stage + history))
        else:
            raises(self, OrderRefused, {"spot": spot, "cause": cause}, order, world)

    def test_land_and_all_and_settle(self):
        self.runs("", [])
        self.runs("land c ; land c", [C, C2])
        self.runs("all hill ; all mid ; all side", [A, B, B2, C])
        self.runs("all mid", [])
        self.runs("settle", [A, B, B2, C, C2])
        self.runs("land c ; settle ; settle", [C, A, B, B2, C2])
        self.runs("settle", [], world=World(example(), stage=END))
        # What floats on from the town while `all` is at work is not ahead of that town.
        river = River([("up", "low", 0, ["a", "b", "c"]), ("low", None, 1, ["a", "b", "c"])],
                      [("a", "low"), ("b", "up"), ("c", "low")])
        self.runs("all low ; all up ; all low", [("a", "low"), ("c", "low"), ("b", "up"), ("b", "low")],
                  world=World(river))

    def test_loops(self):
        self.runs("while any hill { land a }", [A], (0, 0, 0), "kept")
        self.runs("while afloat c side { land c } ; until sea b { settle }", [C, A, B, B2, C2])
        self.runs("until full hill { all hill ; land c }", [A, B, C])
        self.runs("until any hill { land x }", [])
        self.runs("while full hill { land x }", [])
        self.runs("until not any mid { land x }", [])

    def test_if(self):
        self.runs("if any hill { land a } else { land c }", [A])
        self.runs("if not any hill { land a } else { land c }", [C])
        self.runs("if any mid { land a }", [])
        # The condition is asked once.
        self.runs("if any hill { all hill ; land c }", [A, B, C])

    def test_each(self):
        self.runs("each hill { land it }", [A, B])
        self.runs("each hill { each side { land it } ; land it }", [C, A, B])
        self.runs("each hill { if afloat it hill { all hill } else { land it } }", [A, B, B2])
        # The list does not change: b is not ahead of the hill any more when its turn comes.
        self.runs("each hill { settle }", [A, B, B2, C, C2])
        self.runs("each mid { land x }", [])
        self.runs("each hill { if kept a hill { land it } else { land it ; land c } }", [A, C, B])

    def test_conditions(self):
        world = World(example(), stage=[A, B, C, C2])
        true = ["afloat b mid", "kept a hill", "kept c mid", "any mid", "full hill", "full mid", "full side"]
        false = ["afloat b hill", "afloat a hill", "afloat a side", "afloat c side", "kept a mid", "kept a side",
                 "kept b hill", "kept c side", "sea a", "sea b", "any hill", "any side"]
        for asked in true + false:
            holds = asked in true
            self.runs(f"if {asked} {{ settle }}", [B2] if holds else [], world=world)
            self.runs(f"if not {asked} {{ settle }}", [] if holds else [B2], world=world)
            self.runs(f"if not not {asked} {{ settle }}", [B2] if holds else [], world=world)
        self.runs("if sea b { land x }", [], (0, 0, 0), "unknown", world=World(example(), stage=END))
        # A town that could keep more is not full; one of room 0 always is.
        self.runs("if full hill { settle } else { land c }", [C])
        self.runs("if full side { land c }", [C])

    def test_each_cause(self):
        self.runs("all hill ; land b ; land b", [A, B, B2], (2,), "kept")
        self.runs("settle ; land b", [A, B, B2, C, C2], (1,), "sea")
        self.runs("land c ; land x", [C], (1,), "unknown")
        for text, spot in (("all x", (1,)), ("each x { }", (1,)), ("while any x { }", (1,)), ("until full x { }", (1,)),
                           ("if afloat x hill { }", (1,)), ("if afloat a x { }", (1,)), ("if kept x x { }", (1,)),
                           ("while not not sea x { }", (1,)), ("until not kept a x { }", (1,))):
            self.runs("land c ; " + text, [C], spot, "unknown")
        self.runs("while any side { }", [], (0,), "idle")
        self.runs("until sea a { all mid ; all mid }", [], (0,), "idle")
        self.runs("while any hill { all hill ; until full mid { land c } } ; until sea a { if sea a { } }",
                  [A, B, C, C2], (1,), "idle")

    def test_spots(self):
        self.runs("settle ; if sea b { settle ; if any hill { } else { settle ; settle ; land b } }",
                  [A, B, B2, C, C2], (1, 0, 1, 1, 2), "sea")
        self.runs("each hill { if kept a hill { land a } else { land it } }", [A], (0, 0, 0, 0, 0), "kept")
        self.runs("each hill { while any side { each side { land c ; land it ; land it } } }", [C, C2],
                  (0, 0, 0, 0, 0, 0, 2), "kept")
        self.runs("until not any hill { land a ; until sea b { } }", [A], (0, 0, 1), "idle")

    def test_unknown_names_in_parts_that_are_not_reached(self):
        self.runs("if any mid { land x ; all y ; while any z { } } ; land c", [C])
        self.runs("if any hill { land c } else { land x }", [C])
        self.runs("while any mid { land x } ; each mid { land x ; all x } ; until full side { all x }", [])
        self.runs("land a ; land a ; land x", [A], (1,), "kept")
        # All names of a condition are looked at when it is asked.
        self.runs("if afloat c x { }", [], (0,), "unknown")
        self.runs("while any side { land c ; if sea x { } }", [C], (0, 0, 1), "unknown")

    def test_a_name_that_another_thing_or_town_has(self):
        river = River([("a", None, 1, ["t"])], [("t", "a")])
        self.runs("land t", [("t", "a")], world=World(river))
        self.runs("land a", [], (0,), "unknown", world=World(river))
        self.runs("all t", [], (0,), "unknown", world=World(river))
        self.runs("if kept t t { }", [], (0,), "unknown", world=World(river))

    def test_idle_rounds_that_come_late(self):
        # The first rounds have deeds; then `all mid` has none left.
        self.runs("until sea a { all hill ; all side ; all mid }", [A, B, C, B2, C2], (0,), "idle")
        # A deed of an inner statement counts for the outer round too.
        self.runs("while any side { while any side { land c } }", [C])

    def test_four_hundred_statements(self):
        things = [f"h{at}" for at in range(10)]
        world = World(River([("t", None, 99, things), ("u", None, 0, things)], [(thing, "t") for thing in things]))
        # 1 + 10 * (1 + 10 * 3 + 8) = 391 statements are started by the first one.
        inner = "each t { if any t { } ; if any t { } ; if any t { } } ; " + " ; ".join(["all u"] * 8)
        first = "each t { " + inner + " }"
        self.runs(" ; ".join([first] + ["all u"] * 9), [], world=world)
        self.runs(" ; ".join([first] + ["all u"] * 9 + ["all u"]), [], (10,), "long", world=world)
        # It counts ahead of every other cause, and before anything is done.
        self.runs(" ; ".join([first] + ["all u"] * 9 + ["land x"]), [], (10,), "long", world=world)
        self.runs(" ; ".join([first] + ["all u"] * 8 + ["land h3", "settle"]), [("h3", "t")], (10,), "long", world=world)
        self.runs(" ; ".join([first] + ["all u"] * 8 + ["land x", "settle"]), [], (9,), "unknown", world=world)
        self.runs(" ; ".join([first] + ["all u"] * 8 + ["if any t { land h0 }"]), [], (9, 0, 0), "long", world=world)
        self.runs(" ; ".join([first] + ["all u"] * 8 + ["while any t { }"]), [], (9,), "idle", world=world)
        self.runs(" ; ".join([first] + ["all u"] * 9 + ["while any x { }"]), [], (10,), "long", world=world)
        # A loop is started once; the statements of its body are started in each round.
        self.runs(" ; ".join([first] + ["all u"] * 7 + ["while afloat h0 t { land h0 }"]), [("h0", "t")], world=world)
        self.runs(" ; ".join([first] + ["all u"] * 7 + ["each t { land it }"]), [("h0", "t")], (8, 0, 0), "long",
                  world=world)

    def test_random_orders(self):
        causes = {}
        for seed in range(1200):
            chance = seeded(seed)
            river = RIVERS[seed % len(RIVERS)]
            model, history = Model(river), []
            for _ in range(chance.choice([0, 0, 1, 3])):
                free = model.free(model.run(history))
                history += [chance.choice(free)] if free else []
            statements, text = random_order(seed, (river.things * 3 + ["x"], river.towns * 4 + ["y"]))
            answer = walked(model, model.run(history), statements)
            causes[answer[2]] = causes.get(answer[2], 0) + 1
            self.runs(text, *answer, world=World(river, stage=history))
        self.assertEqual(set(causes), {None, "unknown", "kept", "sea", "idle"})
        self.assertGreater(min(causes.values()), 20)

    def test_keywords(self):
        self.assertTrue(Order("settle")(world=World(example())) == World(example(), stage=END))
        same(self, trace(order=Order("land b"), world=World(example())), ([B], None, None))

    def test_a_river_without_things(self):
        world = World(bare())
        self.runs("settle ; all t ; each t { land x } ; if any t { land x } ; while any t { land x }", [], world=world)
        self.runs("if sea x { }", [], (0,), "unknown", world=world)

    def test_a_run_changes_nothing(self):
        order, world = Order("land c ; settle"), World(example(), stage=[A])
        first = trace(order, world)
        spoil(first)
        same(self, trace(order, world), ([C, B, B2, C2], None, None))
        self.assertTrue(world == World(example(), stage=[A]))
        self.assertTrue(order == Order("land c ; settle"))
        refused = Order("land c ; land c ; land c")
        raises(self, OrderRefused, {"spot": (2,), "cause": "kept"}, refused, world)
        self.assertTrue(world == World(example(), stage=[A]))

    def test_a_thing_in_the_sea(self):
        world = World(River([HILL[:1] + (None,) + HILL[2:]], [(thing, "hill") for thing, _ in EXAMPLE_THINGS]))
        self.runs("all hill ; land b", [("a", "hill"), ("b", "hill"), ("c", "hill")], (1,), "sea", world=world)


if __name__ == "__main__":
    unittest.main()
