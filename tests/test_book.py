"""Books: book.py, [79] to [82]."""

import copy
import random
import unittest

from riverkeeps.book import Book, audit, compare, deeds_of, replayed
from riverkeeps.claims import is_good
from riverkeeps.errors import (
    BadKind, BadLiking, BadNumber, BadRoom, ClaimRefused, DeedRefused, DuplicateName, LogRefused, NothingToUndo,
    OrderRefused, RiverError, ThingAtSea, ThingKept, TownNeeded, UnknownThing, UnknownTown)
from riverkeeps.orders import Order, trace
from riverkeeps.turns import turned
from riverkeeps.worlds import World
from tests.helpers import A, A2, B, B2, C, C2, END, bare, example, forked, lists_in, raises, same, spoil, two_seas
from tests.model import Model, small_rivers

REACH = (("reach", [], [A, B]), ("history", [B, A]))
KEEPS = (("keeps", "b", "mid"), ("kept", [A, B, B2]))
NEVER = (("never", "a", "mid"), ("absent", [A, B, B2, C, C2]))
ENDS = (("ends", [("b", "sea", None), ("c", "kept", "mid"), ("a", "kept", "hill")]), None)


def told(book):
    """All that a book tells of itself."""
    world = book.present_world()
    return (book.first_river().town_rows(), book.first_river().thing_rows(), book.present_river().town_rows(),
            book.present_river().thing_rows(), world.river.town_rows(), world.stage, book.log(), book.claims(),
            book.standing(), len(book))


def sample():
    """A book with a deed of every kind."""
    book = Book(example())
    book.land("b")
    book.file(*REACH)
    book.turn(("add", "d", "hill", [("mid", 0)]))
    book.land_all(["d", "c"])
    return book


def refuses(case, error, attributes, book, deed, *args):
    """The deed is refused, and the book is as it was."""
    before = copy.deepcopy(told(book))
    raises(case, error, attributes, deed, *args)
    same(case, told(book), before)


def greatest_by_words(model, landings):
    """The greatest of the stages that histories reach within the landings."""
    return max((done for done in model.stages() if done <= set(landings)), key=len)


class Start(unittest.TestCase):

    def test_a_new_book(self):
        book = Book(river=example())
        self.assertTrue(book.first_river() == example() and book.present_river() == example())
        self.assertTrue(book.present_world() == World(example()))
        same(self, [book.log(), book.claims(), book.standing(), len(book)], [[], [], [], 0])
        raises(self, NothingToUndo, {}, book.undo)


class Land(unittest.TestCase):

    def test_answers(self):
        book = Book(example())
        same(self, book.land(thing="b"), None)
        same(self, book.land("a"), "b")
        same(self, book.land("c"), "c")
        same(self, book.land("b"), None)
        same(self, book.land("c"), "b")
        self.assertTrue(book.present_world() == World(example(), stage=END))
        same(self, book.log(), [("land", thing) for thing in "bacbc"])
        self.assertTrue(book.present_river() == example())

    def test_refused(self):
        book = sample()
        for thing in ("x", "hill", "", "A"):
            refuses(self, UnknownThing, {"thing": thing}, book, book.land, thing)
        refuses(self, ThingKept, {"thing": "b", "town": "hill"}, book, book.land, "b")
        book.run(Order("settle"))
        refuses(self, ThingAtSea, {"thing": "c"}, book, book.land, "c")

    def test_land_all(self):
        book = Book(example())
        same(self, book.land_all(things=["c", "a", "c"]), 3)
        same(self, book.land_all(("b",)), 1)
        same(self, book.land_all([]), 0)
        same(self, book.log(), [("land", thing) for thing in "cacb"])
        same(self, book.present_world().stage, [A, B, C, C2])

    def test_land_all_refused(self):
        book = sample()
        for things, at, cause in ((["a", "x"], 1, "unknown"), (["b"], 0, "kept"), (["a", "b", "b", "b"], 2, "kept"),
                                  (["a", "b", "c", "b"], 3, "sea"),
                                  (["c", "b", "x"], 1, "kept"), (("a", "x", "y"), 1, "unknown")):
            refuses(self, DeedRefused, {"at": at, "cause": cause}, book, book.land_all, things)
        book.run(Order("settle"))
        refuses(self, DeedRefused, {"at": 0, "cause": "sea"}, book, book.land_all, ["c", "x"])

    def test_run(self):
        book = Book(example())
        same(self, book.run(order=Order("land c ; all hill")), [C, A, B])
        same(self, book.log(), [("land", thing) for thing in "cab"])
        same(self, book.present_world().stage, [A, B, C])
        history = book.run(Order("settle"))
        same(self, history, [B2, C2])
        spoil(history)
        same(self, book.log(), [("land", thing) for thing in "cabbc"])
        # A run without a landing adds no row, so undo takes back an earlier deed.
        same(self, book.run(Order("settle")), [])
        same(self, len(book), 5)
        same(self, book.undo(), ("land", "c"))

    def test_run_refused(self):
        book = sample()
        for text in ("land a ; land a ; land a", "all hill ; land x", "while any hill { }", "land d ; settle ; land b"):
            _, spot, cause = trace(Order(text), book.present_world())
            refuses(self, OrderRefused, {"spot": spot, "cause": cause}, book, book.run, Order(text))

    def test_many_deeds_at_once_are_single_deeds(self):
        one, other, third = Book(forked()), Book(forked()), Book(forked())
        one.run(Order("settle"))
        other.land_all([thing for thing, _ in trace(Order("settle"), World(forked()))[0]])
        for _, thing in one.log():
            third.land(thing)
        self.assertTrue(one == other and other == third)
        while len(one):
            same(self, one.undo(), third.undo())
            self.assertTrue(one.present_world() == third.present_world())


class Turn(unittest.TestCase):

    def test_lost_landings(self):
        book = Book(example())
        book.land_all(["b", "a", "c", "b"])
        # With more room on the hill, b has not floated on.
        same(self, book.turn(turn=("more", "hill")), [B2])
        self.assertTrue(book.present_river() == turned(example(), ("more", "hill")))
        self.assertTrue(book.first_river() == example())
        same(self, book.present_world().stage, [A, B, C])
        self.assertTrue(book.present_world().river == book.present_river())
        # The landing that was lost does not come back.
        same(self, book.turn(("less", "hill")), [])
        same(self, book.present_world().stage, [A, B, C])
        same(self, book.turn(("drop", "a")), [A])
        same(self, book.turn(("untown", "side")), [C])
        same(self, book.present_world().stage, [B])
        same(self, book.log()[4:], [("turn", ("more", "hill")), ("turn", ("less", "hill")), ("turn", ("drop", "a")),
                                    ("turn", ("untown", "side"))])

    def test_the_order_of_the_old_river(self):
        book = Book(forked())
        book.run(Order("settle"))
        stage = book.present_world().stage
        lost = book.turn(("untown", "top"))
        same(self, lost, [landing for landing in stage if landing not in book.present_world()])
        self.assertEqual(lost[:2], [("a", "top"), ("b", "top")])

    def test_refused(self):
        book = sample()
        book.turn(("untown", "hill"))
        for error, attributes, turn in (
                (BadKind, {"kind": "go"}, ("go", 1, 2)), (UnknownThing, {"thing": "x"}, ("drop", "x")),
                (UnknownTown, {"town": "hill"}, ("more", "hill")), (BadRoom, {"town": "side"}, ("less", "side")),
                (DuplicateName, {"name": "d"}, ("add", "d", "mid", [])), (BadNumber, {"number": 3}, ("swap", "mid", 3)),
                (BadLiking, {"town": "mid"}, ("liking", "mid", ["a"])), (TownNeeded, {"town": "mid"}, ("untown", "mid"))):
            refuses(self, error, attributes, book, book.turn, turn)

    def test_random_turns(self):
        lost_some = 0
        for seed, river in enumerate(small_rivers(25, least=3, most=8)):
            chance = random.Random(seed)
            book = Book(river)
            for _ in range(8):
                free = book.present_world().free()
                book.land_all([thing for thing, _ in chance.sample(free, chance.randint(0, len(free)))])
                stage, old = book.present_world().stage, book.present_river()
                turn = random_turn(chance, old)
                if turn is None:
                    continue
                lost = book.turn(turn)
                new = turned(old, turn)
                model = Model(new)
                reached = model.ordered(greatest_by_words(model, [landing for landing in stage if landing in model.landings]))
                self.assertTrue(book.present_world() == World(new, stage=reached))
                same(self, lost, [landing for landing in stage if landing not in reached])
                lost_some += bool(lost)
            self.assertTrue(audit(book))
        self.assertGreater(lost_some, 20)


def random_turn(chance, river):
    """A turn that the river allows, and that leaves it small; None if the chance hits upon one that it does not."""
    word = chance.choice(["drop", "more", "less", "swap", "liking", "untown", "town", "add"])
    thing, town = chance.choice(river.things or ["x"]), chance.choice(river.towns)
    liking = chance.sample(river.things, len(river.things))
    turn = {"drop": ("drop", thing), "more": ("more", town), "less": ("less", town), "swap": ("swap", town, 0),
            "liking": ("liking", town, liking), "untown": ("untown", town), "town": ("town", "new", town, 1, tuple(liking)),
            "add": ("add", "n", town, [(town, chance.randint(0, len(liking)))])}[word]
    try:
        return turn if len(turned(river, turn).landings()) <= 10 else None
    except RiverError:
        return None


class File(unittest.TestCase):

    def test_answers(self):
        book = Book(example())
        same(self, book.file(claim=REACH[0], paper=REACH[1]), 0)
        book.land("a")
        same(self, book.file(*ENDS), 1)
        same(self, book.file(*REACH), 2)
        same(self, book.claims(), [REACH, ENDS, REACH])
        same(self, book.standing(), [True, True, True])
        same(self, book.log(), [("file", *REACH), ("land", "a"), ("file", *ENDS), ("file", *REACH)])
        same(self, book.present_world().stage, [A])

    def test_refused(self):
        book = sample()
        for claim, paper in ((("reach", [A], []), ("history", [])), (REACH[0], NEVER[1]), (REACH[0], None),
                             (("keeps", "a", "x"), KEEPS[1]), (("says", 1), None), (("ends", []), None), NEVER, ENDS,
                             (("precedes", A, A), ("blocked", [])), (REACH[0], ("history", [B]))):
            refuses(self, ClaimRefused, {}, book, book.file, claim, paper)

    def test_claims_fall_and_stand_again(self):
        book = Book(example())
        for claim in (REACH, KEEPS, NEVER, ENDS):
            book.file(*claim)
        same(self, book.standing(), [True] * 4)
        book.turn(("more", "mid"))
        same(self, book.standing(), [True, True, True, False])
        book.turn(("more", "hill"))
        # Now b stays on the hill: it never comes to mid, whose end has another stage than the paper says.
        same(self, book.standing(), [True, False, False, False])
        book.turn(("less", "mid"))
        book.turn(("less", "hill"))
        same(self, book.standing(), [True] * 4)
        book.turn(("drop", "a"))
        same(self, book.standing(), [False] * 4)
        same(self, book.claims(), [REACH, KEEPS, NEVER, ENDS])
        book.undo()
        same(self, book.standing(), [True] * 4)
        for _ in range(4):
            book.undo()
        same(self, book.standing(), [True] * 4)
        same(self, book.undo(), ("file", *ENDS))
        same(self, book.claims(), [REACH, KEEPS, NEVER])

    def test_the_claim_is_good_in_the_present_river(self):
        book = Book(example())
        never = (("never", "a", "mid"), ("room", None))
        refuses(self, ClaimRefused, {}, book, book.file, *never)
        book.turn(("less", "mid"))
        same(self, book.file(*never), 0)
        book.turn(("more", "mid"))
        same(self, book.standing(), [False])


class Undo(unittest.TestCase):

    def test_back_to_the_start_and_once_more(self):
        book = Book(example())
        states = [told(book)]
        for deed, args in ((book.land, ("b",)), (book.file, REACH), (book.turn, (("more", "hill"),)),
                           (book.land, ("a",)), (book.file, KEEPS), (book.turn, (("drop", "c"),)), (book.land, ("b",))):
            try:
                deed(*args)
            except RiverError:
                continue
            states.append(told(book))
        self.assertEqual(len(states), 6)
        rows = book.log()
        while len(states) > 1:
            states.pop()
            same(self, book.undo(), rows.pop())
            same(self, told(book), states[-1])
        before = told(book)
        raises(self, NothingToUndo, {}, book.undo)
        raises(self, NothingToUndo, {}, book.undo)
        same(self, told(book), before)
        self.assertTrue(book == Book(example()))
        same(self, book.land("b"), None)

    def test_a_turn_with_lost_landings_is_taken_back(self):
        book = Book(example())
        book.run(Order("settle"))
        same(self, book.turn(("drop", "c")), [C, C2])
        same(self, book.undo(), ("turn", ("drop", "c")))
        self.assertTrue(book.present_world() == World(example(), stage=END))
        self.assertTrue(book.present_river() == example())

    def test_the_row_is_the_callers_own(self):
        book = sample()
        twin = book.twin()
        book.turn(("liking", "mid", ["a", "b", "c", "d"]))
        spoil(book.undo())
        book.file(*REACH)
        spoil(book.undo())
        self.assertTrue(book == twin)


class Twin(unittest.TestCase):

    def test_a_twin(self):
        book = sample()
        twin = book.twin()
        self.assertIsInstance(twin, Book)
        self.assertTrue(book == twin)
        same(self, told(twin), told(book))
        state = copy.deepcopy(told(book))
        twin.land("a")
        twin.file(*REACH)
        twin.turn(("drop", "d"))
        same(self, told(book), state)
        self.assertFalse(book == twin)
        for _ in range(3):
            twin.undo()
        self.assertTrue(book == twin)
        book.land("a")
        same(self, told(twin), state)
        # It can undo every row.
        for many in range(len(twin), 0, -1):
            self.assertEqual(len(twin), many)
            twin.undo()
        self.assertTrue(twin == Book(example()))
        raises(self, NothingToUndo, {}, twin.undo)
        self.assertEqual(len(book), 6)


class Log(unittest.TestCase):

    def test_lists_stay_lists_and_tuples_stay_tuples(self):
        book = Book(example())
        deeds = [("file", ("unorderly", ((A, B), (B, A))), ("stuck", (C, C2))),
                 ("file", ("unorderly", [(A, B), (B, A)]), ("stuck", [C2, C])),
                 ("turn", ("add", "d", "hill", (("mid", 0), ("side", 1)))), ("turn", ("add", "e", "hill", [("mid", 0)])),
                 ("turn", ("liking", "mid", ("a", "b", "c", "d", "e"))), ("turn", ("liking", "mid", list("edcba"))),
                 ("turn", ("town", "new", None, 0, tuple("abcde"))),
                 ("file", ("reach", (), (A, B)), ("history", (B, A))), ("file", ("reach", [], (B, A)), ("history", [A, B])),
                 ("file", ("never", "a", "side"), ("road", None))]
        for row in deeds:
            (book.turn if row[0] == "turn" else book.file)(*row[1:])
        same(self, book.log(), deeds)
        same(self, book.claims(), [row[1:] for row in deeds if row[0] == "file"])

    def test_what_was_passed_may_be_changed(self):
        book = Book(example())
        places, liking, stage, history = [("mid", 0)], ["a", "b", "c", "d"], [A, B], [B, A]
        book.turn(("add", "d", "side", places))
        book.turn(("liking", "hill", liking))
        book.file(("reach", [], stage), ("history", history))
        state = copy.deepcopy(told(book))
        for value in (places, liking, stage, history):
            spoil(value)
        same(self, told(book), state)

    def test_what_was_returned_may_be_changed(self):
        book = sample()
        book.turn(("liking", "hill", ["a", "b", "c", "d"]))
        state = copy.deepcopy(told(book))
        for call in (book.log, book.claims, book.standing, book.first_river().town_rows, book.present_river().town_rows,
                     book.present_world().free):
            found = lists_in(call())
            answer = call()
            self.assertEqual(len({id(one) for one in lists_in(answer)}), len(found))
            spoil(answer)
            same(self, told(book), state)

    def test_no_two_places_share_a_list(self):
        book = Book(example())
        stage = [A]
        book.file(("reach", stage, stage), ("history", []))
        book.file(("reach", stage, stage), ("history", []))
        for told_rows in (book.log(), book.claims()):
            found = lists_in(told_rows)
            self.assertEqual(len({id(one) for one in found}), len(found))
            self.assertEqual(len(found), 7)

    def test_arguments_are_not_changed(self):
        book = Book(example())
        turn, things = ("add", "d", "side", [("mid", 0)]), ["a", "b"]
        before = copy.deepcopy((REACH, turn, things))
        book.turn(turn)
        book.land_all(things)
        book.file(*REACH)
        replayed(example(), book.log())
        self.assertEqual((REACH, turn, things), before)


class Equal(unittest.TestCase):

    def test_equal_books(self):
        self.assertTrue(sample() == sample())
        self.assertTrue(Book(example()) == Book(example()))
        self.assertFalse(Book(example()) == Book(forked()))
        book = sample()
        book.undo()
        self.assertFalse(book == sample())
        # The river now may be the same with another log, and the log with another first river.
        one, other = Book(example()), Book(example())
        one.turn(("more", "hill"))
        one.turn(("less", "hill"))
        self.assertTrue(one.present_world() == other.present_world())
        self.assertFalse(one == other)
        self.assertFalse(Book(turned(example(), ("swap", "hill", 1))) == Book(example()))

    def test_lists_and_tuples_differ(self):
        books = []
        for liking in (["c", "b", "a"], ("c", "b", "a")):
            books.append(Book(example()))
            books[-1].turn(("liking", "hill", liking))
        self.assertFalse(books[0] == books[1])
        self.assertTrue(books[0].present_world() == books[1].present_world())
        same(self, compare(*books), ("row", 0))

    def test_other_values(self):
        for other in (None, 0, [], (), "book", example(), World(example()), sample().log()):
            self.assertIs(sample() == other, False)
            self.assertIs(Book(example()) == other, False)


class Replayed(unittest.TestCase):

    def test_a_log_again(self):
        book = sample()
        for log in (book.log(), tuple(book.log())):
            again = replayed(river=example(), log=log)
            self.assertIsInstance(again, Book)
            self.assertTrue(again == book)
            same(self, told(again), told(book))
        self.assertTrue(replayed(example(), []) == Book(example()))

    def test_rows_with_tuples(self):
        log = [("turn", ("liking", "hill", ("b", "a", "c"))), ("land", "b"),
               ("file", ("reach", (), (A, B)), ("history", (B, A))), ("turn", ("add", "d", "mid", ()))]
        same(self, replayed(example(), tuple(log)).log(), log)

    def test_refused_rows(self):
        good = [("land", "b"), ("file", *REACH), ("turn", ("more", "hill"))]
        for wrong in (("land", "x"), ("land", "b"), ("turn", ("go",)), ("turn", ("less", "side")), ("turn", ("drop", "x")),
                      ("turn", ("liking", "hill", [])), ("turn", ("add", "a", "x", [])), ("file", ("says",), None),
                      ("file", ENDS[0], ("history", [])), ("file", REACH[0], ("history", [A])), ("go", "b"), ("",),
                      ("Land", "a"), ("lands", "a", "b", "c"), ("file", ("keeps", "x", "y"), ("kept", []))):
            for behind in ([], [("land", "a")], [wrong, ("go",)]):
                raises(self, LogRefused, {"at": 3}, replayed, example(), good + [wrong] + behind)
        raises(self, LogRefused, {"at": 0}, replayed, forked(), [("land", "x")])
        raises(self, LogRefused, {"at": 2}, replayed, example(), [("land", "c"), ("land", "c"), ("land", "c")])
        raises(self, LogRefused, {"at": 1}, replayed, example(), (("turn", ("drop", "a")), ("land", "a")))

    def test_the_log_is_copied(self):
        log = [("turn", ("liking", "hill", ["b", "a", "c"]))]
        book = replayed(example(), log)
        spoil(log)
        same(self, book.log(), [("turn", ("liking", "hill", ["b", "a", "c"]))])

    def test_three_hundred_rows(self):
        log = [("turn", (("more", "less")[at // 2 % 2], ("hill", "mid")[at % 2])) for at in range(300)]
        book = replayed(example(), log)
        self.assertEqual(len(book), 300)
        self.assertTrue(audit(book))
        self.assertTrue(book.present_river() == example())


class Comparing(unittest.TestCase):

    def test_audit(self):
        for book in (Book(bare()), Book(example()), sample(), sample().twin()):
            self.assertIs(audit(book=book), True)

    def test_compare(self):
        book = sample()
        same(self, compare(one=book, other=sample()), ("same", None))
        same(self, compare(Book(bare()), Book(bare())), ("same", None))
        same(self, compare(book, replayed(two_seas(), [])), ("river", None))
        other = sample()
        other.land("a")
        same(self, compare(book, other), ("row", 5))
        same(self, compare(other, book), ("row", 5))
        book.turn(("more", "hill"))
        same(self, compare(book, other), ("row", 5))
        same(self, compare(Book(example()), other), ("row", 0))
        # The first rivers count, not the present ones.
        one = Book(turned(example(), ("more", "hill")))
        two = Book(example())
        two.turn(("more", "hill"))
        same(self, compare(one, two), ("river", None))

    def test_compare_and_equal_agree(self):
        books = [Book(example()), sample(), Book(forked()), sample().twin()]
        for one in books:
            for other in books:
                self.assertIs(one == other, compare(one, other) == ("same", None))

    def test_deeds_of(self):
        book = sample()
        same(self, deeds_of(book=book, word="land"), [0, 3, 4])
        same(self, deeds_of(book, "turn"), [2])
        same(self, deeds_of(book, "file"), [1])
        for word in ("", "add", "b", "lan", "Land"):
            same(self, deeds_of(book, word), [])
        same(self, deeds_of(Book(example()), "land"), [])


class Walk(unittest.TestCase):

    def test_random_books(self):
        kinds = {}
        for seed, river in enumerate(small_rivers(20, least=3, most=8) + [example()]):
            chance = random.Random(seed)
            book, states = Book(river), []
            for _ in range(25):
                before = copy.deepcopy(told(book))
                word = chance.choice(["land", "land", "turn", "file", "undo", "twin", "refused"])
                if word == "land" and book.present_world().free():
                    book.land(chance.choice(book.present_world().free())[0])
                elif word == "turn":
                    turn = random_turn(chance, book.present_river())
                    if turn is None:
                        continue
                    book.turn(turn)
                elif word == "file":
                    stage = book.present_world().stage
                    book.file(("reach", [], stage), ("history", history_to(book.present_river(), stage)))
                elif word == "undo" and states:
                    book.undo()
                    same(self, told(book), states.pop())
                    continue
                elif word == "refused":
                    raises(self, UnknownThing, {"thing": "no"}, book.land, "no")
                    raises(self, LogRefused, {"at": len(book)}, replayed, river, book.log() + [("land", "no")])
                    same(self, told(book), before)
                    continue
                elif word == "twin":
                    book = book.twin()
                    same(self, told(book), before)
                    continue
                else:
                    continue
                kinds[word] = kinds.get(word, 0) + 1
                states.append(before)
                self.assertTrue(audit(book))
                self.assertEqual(book.standing(), [is_good(book.present_river(), *claim) for claim in book.claims()])
            while states:
                book.undo()
                same(self, told(book), states.pop())
            self.assertTrue(book == Book(river))
        self.assertGreater(min(kinds.values()), 20)


def history_to(river, stage):
    """A history from the start to the stage, by the rule of landings."""
    model = Model(river)
    return next(history for history, _ in model.histories() if set(history) == set(stage))


if __name__ == "__main__":
    unittest.main()
