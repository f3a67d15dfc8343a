"""Names and likings [9], [10], with the order of checks [4] and the bounds [3]."""

import itertools
import string
import unittest

from riverkeeps import names
from riverkeeps.errors import BadName, BadNumber, DuplicateName, UnknownThing
from tests.helpers import fresh, raises, same


class Constants(unittest.TestCase):

    def test_constants(self):
        same(self, [names.MAX_TOWNS, names.MAX_THINGS, names.MAX_ROOM, names.MAX_NAME], [8, 10, 99, 8])


class Names(unittest.TestCase):

    GOOD = ["a", "z", "ab", "a1", "a0", "z9", "abcdefgh", "a1234567", "seas", "its", "se", "i", "s", "ea", "sea1",
            "asea", "town", "thing", "kept", "afloat"]
    BAD = ["", "abcdefghi", "1", "1a", "A", "aB", "Ab", "sea", "it", "a\n", "\na", "\n", "a b", " a", "a ", "a-b",
           "a_b", "_a", "a.b", "\u00e4", "a\u00e9", "a\u0661", "\u0430", "a\u00b2", "a\t", "a\r", "a\x00", "a%", "sea ",
           "a" * 9, "a" * 100, "a" * 20000, "0123"]

    def test_good_names(self):
        for text in self.GOOD:
            with self.subTest(text):
                self.assertIs(names.is_name(text), True)
                self.assertIs(names.is_name(text=text), True)
                same(self, names.check_name(text), text)
                same(self, names.check_name(text=text), text)

    def test_bad_names(self):
        for text in self.BAD:
            with self.subTest(text[:20]):
                self.assertIs(names.is_name(text), False)
                raises(self, BadName, {"name": text}, names.check_name, text)

    def test_each_character_at_each_place(self):
        for char in [chr(number) for number in range(300)]:
            with self.subTest(char):
                letter = char in string.ascii_lowercase
                self.assertIs(names.is_name(char), letter)
                self.assertIs(names.is_name(char + "a"), letter)
                fits = letter or char in string.digits
                self.assertIs(names.is_name("a" + char), fits)
                self.assertIs(names.is_name("ab" + char + "d"), fits)
                self.assertIs(names.is_name("abcdefg" + char), fits)

    def test_lengths(self):
        for many in range(12):
            with self.subTest(many):
                self.assertIs(names.is_name("x" * many), 1 <= many <= 8)


class FirstDuplicate(unittest.TestCase):

    def test_answers(self):
        same(self, names.first_duplicate([]), None)
        same(self, names.first_duplicate(["b", "a"]), None)
        same(self, names.first_duplicate(["b", "a", "a", "b"]), "a")
        same(self, names.first_duplicate(["a", "b", "b", "a", "a"]), "b")
        same(self, names.first_duplicate(("x", "x")), "x")
        same(self, names.first_duplicate(items=["", "y", ""]), "")
        same(self, names.first_duplicate(["no name", "No", "no name"]), "no name")

    def test_a_long_list(self):
        items = [str(number) for number in range(999)]
        same(self, names.first_duplicate(items), None)
        same(self, names.first_duplicate(items + ["0"]), "0")
        same(self, names.first_duplicate(items[:998] + ["997", "3"]), "997")

    def test_nothing_is_changed(self):
        fresh(self, names.first_duplicate, ["a", "b", "a"])


class IsLiking(unittest.TestCase):

    def test_all_short_lists(self):
        for many in range(4):
            for liking in itertools.product("abx", repeat=many):
                expected = sorted(liking) == ["a", "b"]
                with self.subTest(liking):
                    self.assertIs(names.is_liking(list(liking), ["b", "a"]), expected)
                    self.assertIs(names.is_liking(liking, ("a", "b")), expected)

    def test_no_things(self):
        self.assertIs(names.is_liking([], []), True)
        self.assertIs(names.is_liking((), []), True)
        self.assertIs(names.is_liking(["a"], []), False)
        self.assertIs(names.is_liking([], ["a"]), False)

    def test_by_name_and_any_strings(self):
        self.assertIs(names.is_liking(liking=["No", ""], things=["", "No"]), True)
        self.assertIs(names.is_liking(["a"] * 1000, ["a"]), False)

    def test_nothing_is_changed(self):
        fresh(self, names.is_liking, ["b", "a"], ["a", "b"])


class Rank(unittest.TestCase):

    def test_answers(self):
        for at, thing in enumerate(["c", "a", "b"]):
            same(self, names.rank(["c", "a", "b"], thing), at)
            same(self, names.rank(("c", "a", "b"), thing), at)
        same(self, names.rank(liking=["x"], thing="x"), 0)

    def test_unknown(self):
        raises(self, UnknownThing, {"thing": "d"}, names.rank, ["c", "a"], "d")
        raises(self, UnknownThing, {"thing": "ca"}, names.rank, ("c", "a"), "ca")
        raises(self, UnknownThing, {"thing": ""}, names.rank, [], "")


class BestAndExcess(unittest.TestCase):

    LIKING = ["d", "b", "e", "a", "c"]

    def test_all_choices(self):
        for many in range(6):
            for things in itertools.permutations(self.LIKING, many):
                ordered = sorted(things, key=self.LIKING.index)
                for room in [0, 1, 2, 3, 4, 5, 6, 98, 99]:
                    same(self, names.best(self.LIKING, list(things), room), ordered[:room])
                    same(self, names.excess(self.LIKING, list(things), room), ordered[room:])

    def test_tuples_and_names(self):
        same(self, names.best(("b", "a"), ("a", "b"), 1), ["b"])
        same(self, names.excess(("b", "a"), ("a", "b"), 1), ["a"])
        same(self, names.best(liking=["b", "a"], things=["a"], many=3), ["a"])
        same(self, names.excess(liking=["b", "a"], things=["a"], many=0), ["a"])
        same(self, names.best([], [], 0), [])
        same(self, names.excess([], [], 99), [])

    def test_wrong_things(self):
        for call in (names.best, names.excess):
            raises(self, UnknownThing, {"thing": "x"}, call, self.LIKING, ["a", "x", "y"], 1)
            raises(self, DuplicateName, {"name": "a"}, call, self.LIKING, ["a", "b", "a", "b"], 1)
            raises(self, DuplicateName, {"name": "a"}, call, self.LIKING, ("a", "a", "x"), 1)
            raises(self, UnknownThing, {"thing": "x"}, call, self.LIKING, ["a", "x", "a"], 1)
            raises(self, UnknownThing, {"thing": "x"}, call, self.LIKING, ["x", "x"], 1)

    def test_wrong_numbers(self):
        for call in (names.best, names.excess):
            for number in [-1, 100, True, False, 10 ** 59, -10 ** 59]:
                raises(self, BadNumber, {"number": number}, call, self.LIKING, ["a"], number)

    def test_things_are_checked_before_the_number(self):
        for call in (names.best, names.excess):
            raises(self, UnknownThing, {"thing": "x"}, call, self.LIKING, ["x"], -1)
            raises(self, DuplicateName, {"name": "a"}, call, self.LIKING, ["a", "a"], True)

    def test_nothing_is_changed(self):
        fresh(self, names.best, ["b", "a"], ["a", "b"], 5)
        fresh(self, names.excess, ["b", "a"], ["a", "b"], 0)


class Restrict(unittest.TestCase):

    def test_answers(self):
        same(self, names.restrict(["c", "a", "b"], ["b", "c"]), ["c", "b"])
        same(self, names.restrict(("c", "a", "b"), ("b", "x", "b", "c")), ["c", "b"])
        same(self, names.restrict(liking=["c"], things=[]), [])
        same(self, names.restrict([], ["a"]), [])
        same(self, names.restrict(["a", "b"], ["b", "a"]), ["a", "b"])

    def test_nothing_is_changed(self):
        fresh(self, names.restrict, ["c", "a", "b"], ["a", "b", "c"])


class Dropped(unittest.TestCase):

    def test_answers(self):
        same(self, names.dropped(["c", "a", "b"], "a"), ["c", "b"])
        same(self, names.dropped(("c", "a", "b"), "c"), ["a", "b"])
        same(self, names.dropped(liking=["c"], thing="c"), [])

    def test_unknown(self):
        raises(self, UnknownThing, {"thing": "d"}, names.dropped, ["c", "a"], "d")
        raises(self, UnknownThing, {"thing": "c"}, names.dropped, [], "c")

    def test_nothing_is_changed(self):
        fresh(self, names.dropped, ["c", "a", "b"], "b")


class Inserted(unittest.TestCase):

    def test_answers(self):
        same(self, names.inserted(["c", "a"], "x", 0), ["x", "c", "a"])
        same(self, names.inserted(("c", "a"), "x", 1), ["c", "x", "a"])
        same(self, names.inserted(["c", "a"], "x", 2), ["c", "a", "x"])
        same(self, names.inserted(liking=(), thing="Any string", at=0), ["Any string"])

    def test_wrong(self):
        raises(self, DuplicateName, {"name": "c"}, names.inserted, ["c", "a"], "c", 0)
        for number in [-1, 3, True, False, 10 ** 59]:
            raises(self, BadNumber, {"number": number}, names.inserted, ["c", "a"], "x", number)
        raises(self, BadNumber, {"number": 1}, names.inserted, [], "x", 1)
        raises(self, DuplicateName, {"name": "c"}, names.inserted, ["c", "a"], "c", -1)

    def test_nothing_is_changed(self):
        fresh(self, names.inserted, ["c", "a"], "x", 2)


class Exchanged(unittest.TestCase):

    def test_answers(self):
        same(self, names.exchanged(["c", "a", "b"], 0), ["a", "c", "b"])
        same(self, names.exchanged(("c", "a", "b"), 1), ["c", "b", "a"])
        same(self, names.exchanged(liking=["c", "a", "b", "d"], at=1), ["c", "b", "a", "d"])

    def test_wrong(self):
        for number in [-1, 2, 3, True, False, -10 ** 59]:
            raises(self, BadNumber, {"number": number}, names.exchanged, ["c", "a", "b"], number)
        for liking in ([], ["c"]):
            for number in [-2, -1, 0, 1]:
                raises(self, BadNumber, {"number": number}, names.exchanged, liking, number)

    def test_nothing_is_changed(self):
        fresh(self, names.exchanged, ["c", "a", "b"], 1)


if __name__ == "__main__":
    unittest.main()
