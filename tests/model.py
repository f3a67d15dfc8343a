"""A world that is moved deed by deed, by the rule of [18] alone, and all histories of a small river.

Nothing here uses the program but the rows of a river.
"""

import random

from riverkeeps.rivers import River


class Model:
    """The rows of a river in handy form, and the rule by which a thing lands."""

    def __init__(self, river):
        self.after = {name: after for name, after, _, _ in river.town_rows()}
        self.room = {name: room for name, _, room, _ in river.town_rows()}
        self.liking = {name: liking for name, _, _, liking in river.town_rows()}
        self.springs = dict(river.thing_rows())
        self.towns = sorted(self.after)
        self.things = sorted(self.springs)
        self.paths = {}
        for thing, town in self.springs.items():
            self.paths[thing] = []
            while town is not None:
                self.paths[thing].append(town)
                town = self.after[town]
        self.landings = [(thing, town) for thing in self.things for town in self.paths[thing]]

    def start(self):
        return {thing: ("afloat", spring) for thing, spring in self.springs.items()}

    def free(self, places):
        """The landings that can be done now, in landing order."""
        return [(thing, places[thing][1]) for thing in self.things if places[thing][0] == "afloat"]

    def land(self, places, thing):
        """The places after the thing has landed, and the thing that floats on, or None."""
        town = places[thing][1]
        places = dict(places)
        places[thing] = ("kept", town)
        group = [other for other in self.things if places[other] == ("kept", town)]
        if len(group) <= self.room[town]:
            return places, None
        worst = max(group, key=self.liking[town].index)
        behind = self.after[town]
        places[worst] = ("sea", None) if behind is None else ("afloat", behind)
        return places, worst

    def run(self, history):
        """The places after a history from the start."""
        places = self.start()
        for landing in history:
            assert landing in self.free(places)
            places, _ = self.land(places, landing[0])
        return places

    def rows(self, places):
        return [(thing, *places[thing]) for thing in self.things]

    def histories(self):
        """Every history from the start, the empty one first, each with the places after it."""
        def walk(history, places):
            yield history, places
            for landing in self.free(places):
                yield from walk(history + [landing], self.land(places, landing[0])[0])
        return walk([], self.start())

    def onward(self, done):
        """Every history from the world of the stage, by the stage it leads to, in the order of [46]."""
        found = {}

        def walk(history, places):
            found.setdefault(frozenset(done).union(history), []).append(history)
            for landing in self.free(places):
                walk(history + [landing], self.land(places, landing[0])[0])
        walk([], self.stages()[frozenset(done)])
        return found

    def end(self):
        """The landings that are done by every history that cannot be continued."""
        places, done = self.start(), set()
        while self.free(places):
            landing = self.free(places)[-1]
            done.add(landing)
            places = self.land(places, landing[0])[0]
        return self.ordered(done)

    def stages(self):
        """The places for each set of landings that some history does, whatever the order of the deeds is."""
        found = {frozenset(): self.start()}
        left = [frozenset()]
        while left:
            done = left.pop()
            for landing in self.free(found[done]):
                more = done | {landing}
                places = self.land(found[done], landing[0])[0]
                if more not in found:
                    found[more] = places
                    left.append(more)
                elif found[more] != places:
                    raise AssertionError("two orders of the same deeds lead to different places")
        return found

    def ordered(self, landings):
        return [landing for landing in self.landings if landing in landings]

    def open(self, landings, landing):
        """Whether the landing is open under the landings, by the words of [20]."""
        thing, town = landing
        at = self.paths[thing].index(town)
        if at == 0:
            return True
        before = self.paths[thing][at - 1]
        if (thing, before) not in landings:
            return False
        better = [other for other in self.things if (other, before) in landings
                  and self.liking[before].index(other) < self.liking[before].index(thing)]
        return len(better) >= self.room[before]


def random_river(seed, most_towns=4, most_things=4):
    """A river that the seed alone tells."""
    chance = random.Random(seed)
    towns = [f"t{at}" for at in range(chance.randint(1, most_towns))]
    things = [f"h{at}" for at in range(chance.randint(0, most_things))]
    chance.shuffle(towns)
    rows = []
    for at, town in enumerate(towns):
        after = chance.choice(towns[:at] * 3 + [None])
        rows.append((town, after, chance.choice([0, 0, 1, 1, 1, 2, 3]), chance.sample(things, len(things))))
    chance.shuffle(rows)
    return River(rows, [(thing, chance.choice(towns)) for thing in things])


def small_rivers(many, least=1, most=8, most_towns=4, most_things=4):
    """So many rivers with at least and at most so many landings."""
    found = []
    seed = 0
    while len(found) < many:
        river = random_river(seed, most_towns, most_things)
        if least <= len(Model(river).landings) <= most:
            found.append(river)
        seed += 1
    return found


def subsets(items):
    """All lists that hold some of the items, in their order."""
    found = [[]]
    for item in items:
        found += [chosen + [item] for chosen in found]
    return found
