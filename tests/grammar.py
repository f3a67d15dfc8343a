"""Orders by the words of [71] to [77] alone: which word can stand where, random orders, and what their runs do.

Nothing here uses the program. A stack of symbols tells what must still come; each word is matched against all stacks
that are possible before it.
"""

import random

NAMES = "abcdefghijklmnopqrstuvwxyz"


def is_name(word):
    fine = 1 <= len(word) <= 8 and all(char in NAMES + "0123456789" for char in word)
    return fine and word[0] in NAMES and word not in ("sea", "it")


def choices(symbol):
    """What may stand in the place of a symbol (kind, inside of an each, depth); None for a symbol that is one word."""
    kind, inside, depth = symbol
    more = (inside, depth)
    thing, town = ("THING", inside, 0), ("NAME", False, 0)
    condition, block = ("condition", inside, 0), ("block", inside, depth + 1)
    return {
        "order": [[], [("statement", *more), ("rest", *more)]],
        "rest": [[], [";", ("statement", *more), ("rest", *more)]],
        "statement": [
            ["land", thing], ["all", town], ["settle"], ["while", condition, block], ["until", condition, block],
            ["if", condition, block, ("other", *more)], ["each", town, ("block", True, depth + 1)]],
        "other": [[], ["else", block]],
        "block": [[("{", False, depth), ("order", *more), "}"]],
        "condition": [
            ["afloat", thing, town], ["kept", thing, town], ["sea", thing], ["any", town], ["full", town],
            ["not", condition]],
    }.get(kind)


def opened(stack):
    """All stacks in which what must come first is one word, and perhaps the empty one."""
    if not stack or isinstance(stack[0], str) or choices(stack[0]) is None:
        return [stack]
    return [found for choice in choices(stack[0]) for found in opened(tuple(choice) + stack[1:])]


def matches(symbol, word):
    if isinstance(symbol, str):
        return symbol == word
    kind, inside, depth = symbol
    if kind == "{":
        return word == "{" and depth <= 6
    return is_name(word) or (kind == "THING" and inside and word == "it")


def bad_at(words):
    """The index of the first word that cannot stand; None if the words are an order."""
    stacks = [(("order", False, 0),)]
    for at, word in enumerate(words):
        found = {stack[1:] for one in stacks for stack in opened(one) if stack and matches(stack[0], word)}
        if not found:
            return at
        stacks = list(found)
    return None if any(() in opened(stack) for stack in stacks) else len(words)


def random_condition(chance, names, inside):
    things, towns = names
    things = things + ["it"] * 3 * inside
    word = chance.choice(["afloat", "kept", "sea", "any", "full", "not", "not"])
    if word == "not":
        return ("not", random_condition(chance, names, inside))
    if word in ("any", "full"):
        return (word, chance.choice(towns))
    return (word, chance.choice(things)) + (() if word == "sea" else (chance.choice(towns),))


def random_statements(chance, names, depth=0, inside=False, most=3):
    """Statements as [73] lists them; the names are a pair: those of things and those of towns."""
    things, towns = names
    found = []
    for _ in range(chance.randint(0 if depth else 1, most)):
        words = ["land", "land", "all", "settle"] + ["while", "until", "if", "each", "each"] * (depth < 4)
        word = chance.choice(words)
        if word == "land":
            found.append((word, chance.choice(things + ["it"] * 3 * inside)))
        elif word == "all":
            found.append((word, chance.choice(towns)))
        elif word == "settle":
            found.append((word,))
        elif word == "each":
            found.append((word, chance.choice(towns), random_statements(chance, names, depth + 1, True, 2)))
        else:
            blocks = [random_statements(chance, names, depth + 1, inside, 2) for _ in range(1 + (word == "if"))]
            found.append((word, random_condition(chance, names, inside), *blocks))
    return found


def words_of(statements, chance=None):
    """The words of statements; with a chance, an `else` with an empty block is there now and then."""
    words = []
    for statement in statements:
        words += [";"] * bool(words) + [statement[0]]
        for part in statement[1:]:
            if isinstance(part, str):
                words.append(part)
            elif isinstance(part, tuple):
                while part[0] == "not":
                    words.append("not")
                    part = part[1]
                words += part
            elif part is not statement[-1] or statement[0] != "if":
                words += ["{"] + words_of(part, chance) + ["}"]
            elif part or chance and chance.random() < 0.5:
                words += ["else", "{"] + words_of(part, chance) + ["}"]
    return words


class Refused(Exception):
    """A run is refused: the spot and the cause."""


class Walk:
    """A run in a world that is told by the places of the things."""

    def __init__(self, model, places):
        self.model, self.places, self.history, self.started = model, places, [], 0

    def land(self, thing, spot):
        if thing not in self.model.things:
            raise Refused(spot, "unknown")
        kind, town = self.places[thing]
        if kind != "afloat":
            raise Refused(spot, kind)
        self.history.append((thing, town))
        self.places, _ = self.model.land(self.places, thing)

    def ahead(self, town, spot):
        if town not in self.model.towns:
            raise Refused(spot, "unknown")
        return [thing for thing in self.model.things if self.places[thing] == ("afloat", town)]

    def asks(self, condition, spot, it):
        word, *names = condition
        if word == "not":
            return not self.asks(names[0], spot, it)
        names = [it if name == "it" else name for name in names]
        if word in ("any", "full"):
            ahead = self.ahead(names[0], spot)
            kept = [thing for thing in self.model.things if self.places[thing] == ("kept", names[0])]
            return bool(ahead) if word == "any" else len(kept) == self.model.room[names[0]]
        if names[0] not in self.model.things or any(town not in self.model.towns for town in names[1:]):
            raise Refused(spot, "unknown")
        return self.places[names[0]] == (word, names[1] if names[1:] else None)

    def block(self, statements, spot, it=None):
        for at, statement in enumerate(statements):
            self.statement(statement, spot + (at,), it)

    def statement(self, statement, spot, it):
        self.started += 1
        if self.started == 401:
            raise Refused(spot, "long")
        word, *parts = statement
        if word == "land":
            self.land(it if parts[0] == "it" else parts[0], spot)
        elif word == "all":
            for thing in self.ahead(parts[0], spot):
                self.land(thing, spot)
        elif word == "settle":
            while self.model.free(self.places):
                self.land(self.model.free(self.places)[0][0], spot)
        elif word == "if":
            side = 0 if self.asks(parts[0], spot, it) else 1
            self.block(parts[1 + side], spot + (side,), it)
        elif word == "each":
            for thing in self.ahead(parts[0], spot):
                self.block(parts[1], spot + (0,), thing)
        else:
            while self.asks(parts[0], spot, it) is (word == "while"):
                before = len(self.history)
                self.block(parts[1], spot + (0,), it)
                if len(self.history) == before:
                    raise Refused(spot, "idle")


def walked(model, places, statements):
    """What [74] and [75] say of a run: the history, the spot and the cause."""
    walk = Walk(model, places)
    try:
        walk.block(statements, ())
    except Refused as refused:
        return (walk.history, *refused.args)
    return (walk.history, None, None)


def seeded(seed):
    return random.Random(seed)
