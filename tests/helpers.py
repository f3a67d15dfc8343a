"""What the tests share: exact comparisons, checks of errors, and small rivers."""

import copy

from riverkeeps.errors import DuplicateLanding, NotStage, UnknownLanding
from riverkeeps.rivers import River


def raises(case, error, attributes, call, *args, **more):
    """The call raises exactly this error class, with exactly these attributes."""
    with case.assertRaises(error) as caught:
        call(*args, **more)
    case.assertIs(type(caught.exception), error)
    # The repr tells True from 1 and a list from a tuple.
    case.assertEqual(repr(sorted(vars(caught.exception).items())), repr(sorted(attributes.items())))


def same(case, got, expected):
    """Both are equal and of the same kinds at every depth (lists, tuples, integers, bools)."""
    case.assertEqual(got, expected)
    case.assertEqual(repr(got), repr(expected))


def spoil(value):
    """Change every list inside of a value, at every depth."""
    if isinstance(value, (list, tuple)):
        for item in value:
            spoil(item)
    if isinstance(value, list):
        value.append("spoiled")
        value.reverse()


def lists_in(value):
    """All list objects inside of a value, at every depth."""
    found = [value] if isinstance(value, list) else []
    if isinstance(value, (list, tuple)):
        for item in value:
            found += lists_in(item)
    return found


def fresh(case, call, *args, **more):
    """The call changes no argument, and a change of its answer changes no later answer."""
    before = copy.deepcopy((args, more))
    first = call(*args, **more)
    expected = copy.deepcopy(first)
    # Kept until the end, so that no two lists of it can have the same id.
    found = lists_in(first)
    case.assertEqual(len({id(item) for item in found}), len(found))
    spoil(first)
    same(case, call(*args, **more), expected)
    case.assertEqual(before, (args, more))


HILL = ("hill", "mid", 1, ["a", "b", "c"])
MID = ("mid", None, 1, ["c", "a", "b"])
SIDE = ("side", "mid", 0, ["b", "c", "a"])
EXAMPLE_THINGS = [("a", "hill"), ("b", "hill"), ("c", "side")]


# The landings of the worked example, and its end.
A, A2, B, B2, C, C2 = ("a", "hill"), ("a", "mid"), ("b", "hill"), ("b", "mid"), ("c", "side"), ("c", "mid")
END = [A, B, B2, C, C2]

# Each list with the error that it raises, and the landing that the error names.
WRONG_LISTS = [
    (UnknownLanding, ("x", "y"), [("x", "y")]),
    (UnknownLanding, ("a", "side"), [A, ("a", "side"), A]),
    (DuplicateLanding, A, [A, B, A, ("x", "y")]),
    (DuplicateLanding, A2, [A2, A2]),
]
WRONG_STAGES = WRONG_LISTS + [(NotStage, A2, [A2]), (NotStage, B2, [C2, B2, B]), (NotStage, A2, [C2, A, A2])]


def example():
    """The river of the worked example."""
    return River([HILL, MID, SIDE], EXAMPLE_THINGS)


def wrong(case, lists, call, *behind, **more):
    """The call refuses each of the lists behind the example river, passed as a list and as a tuple."""
    for error, landing, landings in lists:
        raises(case, error, {"landing": landing}, call, example(), landings, *behind, **more)
        raises(case, error, {"landing": landing}, call, example(), tuple(landings), *behind, **more)


def bare():
    """A river without things."""
    return River([("t", None, 3, [])], [])


def two_seas():
    """Two rivers side by side; y has a town of a great room, x towns of room 0."""
    towns = [("x2", "x1", 0, ["p", "q", "r"]), ("x1", None, 2, ["r", "q", "p"]), ("y", None, 99, ["q", "p", "r"])]
    return River(towns, [("q", "x2"), ("p", "x1"), ("r", "y")])


def forked():
    """Seven landings towns deep: two arms join, and a tail leads to the sea."""
    towns = [
        ("top", "fork", 1, ["d", "c", "b", "a"]),
        ("arm", "fork", 1, ["a", "b", "c", "d"]),
        ("fork", "tail", 1, ["b", "d", "a", "c"]),
        ("tail", None, 1, ["c", "a", "d", "b"]),
    ]
    return River(towns, [("a", "top"), ("b", "top"), ("c", "arm"), ("d", "arm")])


def chain_of_three(rooms, likings, springs):
    """A chain of towns, t0 the last one, with the things a, b and c; each liking is three letters."""
    rows = [(f"t{at}", f"t{at - 1}" if at else None, int(room), list(liking))
            for at, (room, liking) in enumerate(zip(rooms, likings))]
    return River(rows, list(zip("abc", springs)))


def thirty_two():
    """A river of exactly 32 stages: five things, each of which may land at any time."""
    things = ["a", "b", "c", "d", "e"]
    return River([("t", None, 2, things), ("u", None, 1, things)], [(thing, "tu"[at // 3]) for at, thing in
                                                                    enumerate(things)])


def thirty_three():
    """A river of exactly 33 stages."""
    return chain_of_three("1100100", ["cab", "acb", "acb", "cab", "abc", "abc", "acb"], ["t1", "t3", "t2"])


def sixty():
    """A river of exactly 60 stages: four things that float on everywhere, past one, one, two and four towns."""
    things = ["a", "b", "c", "d"]
    rows = [(f"t{at}", f"t{at - 1}" if at else None, 0, things) for at in range(4)]
    return River(rows, [("a", "t0"), ("b", "t0"), ("c", "t1"), ("d", "t3")])


def sixty_one():
    """A river of exactly 61 stages."""
    return chain_of_three("1110000", ["bac", "cba", "cab", "bca", "cba", "acb", "cab"], ["t2", "t6", "t4"])
