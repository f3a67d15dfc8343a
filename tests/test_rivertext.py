"""The river text [16], [17]."""

import re
import unittest

from riverkeeps.errors import BadLiking, BadText, Ring, RiverError, UnknownTown
from riverkeeps.rivers import River
from riverkeeps.rivertext import is_river_text, read_river, write_river
from tests.helpers import bare, example, forked, raises, same, two_seas

EXAMPLE = """town hill 1 mid a b c
town mid 1 sea c a b
town side 0 mid b c a
thing a hill
thing b hill
thing c side"""


def odd_names():
    """Towns and things that are called like the words of the text."""
    towns = [("town", "thing", 10, ["thing", "town"]), ("thing", None, 99, ["town", "thing"]),
             ("kept", "town", 9, ["thing", "town"])]
    return River(towns, [("thing", "town"), ("town", "kept")])


def greatest():
    """Eight towns and ten things."""
    things = [f"thing{at}" for at in range(10)]
    towns = [(f"t{at}", f"t{at + 1}" if at < 7 else None, at * 14, things) for at in range(8)]
    return River(towns, [(thing, "t0") for thing in things])


RIVERS = [example(), forked(), two_seas(), bare(), odd_names(), greatest()]


def replaced(number, line):
    """The example's text with another line of this number."""
    lines = EXAMPLE.split("\n")
    lines[number - 1] = line
    return "\n".join(lines)


NAME = "(?!(?:sea|it)(?: |$))[a-z][a-z0-9]{0,7}"
TOWN_LINE = re.compile(f"town ({NAME}) (0|[1-9][0-9]?) (sea|{NAME})((?: {NAME})*)")
THING_LINE = re.compile(f"thing ({NAME}) ({NAME})")


def first_fault(text):
    """The number of the first line at fault, found in another way than the program finds it."""
    towns, things = [], []
    for number, line in enumerate(text.split("\n"), start=1):
        town, thing = TOWN_LINE.fullmatch(line), THING_LINE.fullmatch(line)
        if town:
            if things or len(towns) == 8 or (towns and town[1] <= towns[-1]):
                return number
            towns.append(town[1])
        elif thing:
            if not towns or len(things) == 10 or (things and thing[1] <= things[-1]):
                return number
            things.append(thing[1])
        else:
            return number
    return None


class Writing(unittest.TestCase):

    def test_the_example(self):
        same(self, write_river(example()), EXAMPLE)
        same(self, write_river(river=example()), EXAMPLE)

    def test_other_rivers(self):
        same(self, write_river(bare()), "town t 3 sea")
        same(self, write_river(two_seas()), "town x1 2 sea r q p\ntown x2 0 x1 p q r\ntown y 99 sea q p r\n"
                                            "thing p x1\nthing q x2\nthing r y")
        same(self, write_river(odd_names()), "town kept 9 town thing town\ntown thing 99 sea town thing\n"
                                             "town town 10 thing thing town\nthing thing town\nthing town kept")

    def test_the_order_of_the_rows_has_no_meaning(self):
        river = River(list(reversed(example().town_rows())), list(reversed(example().thing_rows())))
        same(self, write_river(river), EXAMPLE)


class Reading(unittest.TestCase):

    def test_there_and_back(self):
        for river in RIVERS:
            text = write_river(river)
            self.assertTrue(read_river(text) == river)
            self.assertTrue(read_river(text=text) == river)
            same(self, write_river(read_river(text)), text)
            self.assertIs(is_river_text(text), True)
            self.assertIs(is_river_text(text=text), True)

    def test_the_rows_that_are_read(self):
        same(self, read_river(EXAMPLE).town_rows(), example().town_rows())
        same(self, read_river(EXAMPLE).thing_rows(), example().thing_rows())
        same(self, read_river("town t 0 sea").room("t"), 0)
        same(self, read_river("town t 10 sea").room("t"), 10)

    def test_one_line_at_fault(self):
        town_lines = [
            "", " ", "town", "town hill", "town hill 1", "hill", "hill 1 mid a b c", "Town hill 1 mid a b c",
            "towns hill 1 mid a b c", "town  hill 1 mid a b c", " town hill 1 mid a b c", "town hill 1 mid a b c ",
            "town hill 1 mid a  b c", "town hill 1  mid a b c", "town hill  1 mid a b c", "town hill 1 mid ",
            "town hill 00 mid a b c", "town hill 01 mid a b c", "town hill 100 mid a b c", "town hill -1 mid a b c",
            "town hill +1 mid a b c", "town hill 1a mid a b c", "town hill x mid a b c", "town hill 1.0 mid a b c",
            "town hill 1_0 mid a b c", "town hill 099 mid a b c", "town hill mid a b c", "town hill 10000 mid a b c",
            "town Hill 1 mid a b c", "town sea 1 mid a b c", "town it 1 mid a b c", "town 1ill 1 mid a b c",
            "town hillhills 1 mid a b c", "town hill 1 Mid a b c", "town hill 1 it a b c", "town hill 1 Sea a b c",
            "town hill 1 seaseasea a b c", "town hill 1 mid a b sea", "town hill 1 mid a it c", "town hill 1 mid A b c",
            "town hill 1 mid a b 1", "town hill 1 mid a,b,c", "thing hill mid", "thing hill 1 mid a b c",
        ]
        for line in town_lines:
            with self.subTest(line):
                raises(self, BadText, {"line": 1}, read_river, replaced(1, line))
                self.assertIs(is_river_text(replaced(1, line)), False)
                raises(self, BadText, {"line": 1}, read_river, line)
        thing_lines = [
            "", " ", "thing", "thing b", "thing b hill hill", "thing b hill ", " thing b hill", "thing  b hill",
            "thing b  hill", "Thing b hill", "things b hill", "thing B hill", "thing sea hill", "thing it hill",
            "thing b sea", "thing b it", "thing b Hill", "thing b 1hill", "thing bbbbbbbbb hill", "b hill",
            "thing b hill\t", "town b 1 sea a b c", "town z 1 sea a b c", "town z 1 sea",
        ]
        for line in thing_lines:
            with self.subTest(line):
                raises(self, BadText, {"line": 5}, read_river, replaced(5, line))
                self.assertIs(is_river_text(replaced(5, line)), False)

    def test_lines_out_of_order(self):
        raises(self, BadText, {"line": 2}, read_river, replaced(2, "town hill 1 sea a b c"))
        raises(self, BadText, {"line": 2}, read_river, replaced(2, "town hil 1 sea a b c"))
        raises(self, BadText, {"line": 3}, read_river, replaced(2, "town side 1 sea a b c"))
        raises(self, BadText, {"line": 3}, read_river, replaced(2, "town z 1 sea a b c"))
        raises(self, BadText, {"line": 5}, read_river, replaced(5, "thing a hill"))
        raises(self, BadText, {"line": 6}, read_river, replaced(5, "thing c hill"))
        raises(self, BadText, {"line": 6}, read_river, replaced(5, "thing d hill"))
        # Names are ordered as strings, not as numbers.
        raises(self, BadText, {"line": 2}, read_river, "town t9 1 sea\ntown t10 1 sea")
        self.assertIs(is_river_text("town t10 1 sea\ntown t9 1 sea"), True)
        # A thing line is compared with the thing line before it only, so its name may be any after a town line.
        self.assertIs(is_river_text("town z 1 sea a\nthing a z"), True)

    def test_a_thing_line_first_and_a_town_line_behind_it(self):
        raises(self, BadText, {"line": 1}, read_river, "thing a hill")
        raises(self, BadText, {"line": 1}, read_river, "thing a t\ntown t 1 sea a")
        raises(self, BadText, {"line": 3}, read_river, "town t 1 sea a\nthing a t\ntown u 1 sea a")
        raises(self, BadText, {"line": 3}, read_river, "town t 1 sea a\nthing a t\ntown t 1 sea a")

    def test_too_many_lines(self):
        towns = [f"town t{at} 1 sea" for at in range(9)]
        self.assertIs(is_river_text("\n".join(towns[:8])), True)
        raises(self, BadText, {"line": 9}, read_river, "\n".join(towns))
        names = [f"a{at}" for at in range(10)]
        names.sort()
        liked = " ".join(names)
        town = f"town t 1 sea {liked}"
        things = [f"thing {name} t" for name in names]
        self.assertIs(is_river_text("\n".join([town] + things)), True)
        raises(self, BadText, {"line": 12}, read_river, "\n".join([town + " b"] + things + ["thing b t"]))
        raises(self, BadText, {"line": 19}, read_river, "\n".join(towns[:8] + things + ["thing b t0"]))

    def test_newlines_at_the_ends(self):
        raises(self, BadText, {"line": 1}, read_river, "")
        raises(self, BadText, {"line": 1}, read_river, "\n")
        raises(self, BadText, {"line": 1}, read_river, "\n" + EXAMPLE)
        raises(self, BadText, {"line": 7}, read_river, EXAMPLE + "\n")
        raises(self, BadText, {"line": 2}, read_river, "town t 1 sea\n")
        raises(self, BadText, {"line": 4}, read_river, EXAMPLE.replace("thing a", "\nthing a"))
        raises(self, BadText, {"line": 1}, read_river, "\n" * 19999)
        self.assertIs(is_river_text(""), False)

    def test_the_first_line_at_fault_counts(self):
        raises(self, BadText, {"line": 2}, read_river, "town t 1 sea\ntown a 1 sea\nnonsense\n")
        raises(self, BadText, {"line": 4}, read_river, replaced(4, "x").replace("thing c", "y"))

    def test_the_second_step(self):
        cases = [
            (UnknownTown, {"town": "x"}, "town t 1 x"),
            (UnknownTown, {"town": "x"}, "town t 1 sea a\nthing a x"),
            (BadLiking, {"town": "t"}, "town t 1 sea\nthing a t"),
            (BadLiking, {"town": "t"}, "town t 1 sea a"),
            (BadLiking, {"town": "t"}, "town t 1 sea a a\nthing a t"),
            (BadLiking, {"town": "t"}, "town t 1 sea a a\nthing a t\nthing b t"),
            (BadLiking, {"town": "t"}, "town t 1 sea " + " ".join(["a"] * 900) + "\nthing a t"),
            (BadLiking, {"town": "u"}, "town t 1 u a\ntown u 1 sea b\nthing a t"),
            (UnknownTown, {"town": "town"}, "town t 1 town a\nthing b x"),
            (Ring, {"town": "t"}, "town t 1 t"),
            (Ring, {"town": "a"}, "town a 1 b\ntown b 1 b\ntown c 1 sea"),
        ]
        for error, attributes, text in cases:
            with self.subTest(text[:30]):
                raises(self, error, attributes, read_river, text)
                self.assertIs(is_river_text(text), False)

    def test_the_second_step_begins_only_if_no_line_is_at_fault(self):
        raises(self, BadText, {"line": 3}, read_river, "town t 1 x a a\ntown u 1 u\nthing")
        raises(self, BadText, {"line": 2}, read_river, "town t 1 t\n")

    def test_all_small_changes_of_a_text(self):
        text = "town ab 1 c0 t x\ntown c0 10 sea x t\nthing t ab\nthing x c0"
        read = 0
        for at in range(len(text) + 1):
            for char in ["", " ", "\n", "a", "z", "0", "9", "A", "sea", "it", "-"]:
                for rest in (at, at + 1):
                    changed = text[:at] + char + text[rest:]
                    fault = first_fault(changed)
                    if fault is not None:
                        raises(self, BadText, {"line": fault}, read_river, changed)
                        self.assertIs(is_river_text(changed), False)
                        continue
                    try:
                        river = read_river(changed)
                    except (UnknownTown, BadLiking, Ring):
                        self.assertIs(is_river_text(changed), False)
                        continue
                    read += 1
                    self.assertIs(is_river_text(changed), True)
                    same(self, write_river(river), changed)
        self.assertGreater(read, 50)

    def test_only_errors_of_the_package(self):
        for text in ["town", "%", "town t", "town t 1 sea " * 9, "thing" * 3999, " " * 20000, "town t 1 sea\r"]:
            with self.assertRaises(RiverError):
                read_river(text)


if __name__ == "__main__":
    unittest.main()
