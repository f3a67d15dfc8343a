"""Books: the record of a river, its world and its claims as they change."""

from riverkeeps.claims import is_good
from riverkeeps.deeds import history_of, landing_report, world_after
from riverkeeps.errors import BadKind, ClaimRefused, LogRefused, NothingToUndo, OrderRefused, RiverError
from riverkeeps.flow import greatest_within
from riverkeeps.orders import trace
from riverkeeps.turns import turned
from riverkeeps.worlds import World


def copied(value):
    """Return a copy of the value that shares no list with it; lists stay lists and tuples stay tuples."""
    if isinstance(value, list):
        return [copied(item) for item in value]
    if isinstance(value, tuple):
        return tuple([copied(item) for item in value])
    return value


class Book:
    """A river with its world and its claims, and the log of the deeds that made them what they are."""

    def __init__(self, river):
        self._first = river
        self._world = World(river)
        self._log = []
        # For each row of the log, the world before its deed.
        self._worlds = []

    def first_river(self):
        """Return the river at the start."""
        return self._first

    def present_river(self):
        """Return the river now."""
        return self._world.river

    def present_world(self):
        """Return the world now."""
        return self._world

    def _add(self, row, world):
        self._log.append(copied(row))
        self._worlds.append(self._world)
        self._world = world

    def _add_history(self, history):
        for landing in history:
            self._add(("land", landing[0]), world_after(self._world, [landing]))

    def land(self, thing):
        """Land the thing; return the thing that floats on from the town, or None."""
        _, town, floated = landing_report(self._world, thing)
        self._add_history([(thing, town)])
        return floated

    def land_all(self, things):
        """Land the things one after another; return their number."""
        self._add_history(history_of(self._world, things))
        return len(things)

    def run(self, order):
        """Run the order in the present world; return the landings that it does."""
        history, spot, cause = trace(order, self._world)
        if cause is not None:
            raise OrderRefused(spot, cause)
        self._add_history(history)
        return history

    def turn(self, turn):
        """Change the river; return the landings that are lost by it."""
        river = turned(self._world.river, turn)
        stage = self._world.stage
        known = river.landings()
        world = World(river, stage=greatest_within(river, [landing for landing in stage if landing in known]))
        self._add(("turn", turn), world)
        return [landing for landing in stage if landing not in world]

    def file(self, claim, paper):
        """File the claim with its paper; return the number of claims that were filed before."""
        if not is_good(self._world.river, claim, paper):
            raise ClaimRefused()
        many = len(self.claims())
        self._add(("file", claim, paper), self._world)
        return many

    def claims(self):
        """Return the pairs (claim, paper) that are filed, in the order of filing."""
        return [(row[1], row[2]) for row in self.log() if row[0] == "file"]

    def standing(self):
        """Return for each filed claim whether it stands."""
        return [is_good(self._world.river, claim, paper) for claim, paper in self.claims()]

    def undo(self):
        """Take back the last deed; return its row of the log."""
        if not self._log:
            raise NothingToUndo()
        self._world = self._worlds.pop()
        return self._log.pop()

    def log(self):
        """Return the rows of the log."""
        return [copied(row) for row in self._log]

    def twin(self):
        """Return a new book with the same first river and log."""
        book = Book(self._first)
        book._world = self._world
        book._log = self.log()
        book._worlds = list(self._worlds)
        return book

    def __len__(self):
        return len(self._log)

    def __eq__(self, other):
        return isinstance(other, Book) and self._first == other._first and self._log == other._log


def do_row(book, row):
    """Do the deed that a row of a log tells."""
    if row[0] == "land":
        book.land(row[1])
    elif row[0] == "turn":
        book.turn(row[1])
    elif row[0] == "file":
        book.file(row[1], row[2])
    else:
        raise BadKind(row[0])


def replayed(river, log):
    """Return the book that the deeds of the log make, one after another."""
    book = Book(river)
    for at, row in enumerate(log):
        try:
            do_row(book, row)
        except RiverError:
            raise LogRefused(at)
    return book


def audit(book):
    """Tell whether replaying the log of the book gives the same river and world."""
    try:
        again = replayed(book.first_river(), book.log())
    except LogRefused:
        return False
    return again.present_world() == book.present_world()


def first_other_row(one_log, other_log):
    """Return the least index at which the logs have different rows or only one of them has a row, or None."""
    for at in range(max(len(one_log), len(other_log))):
        if one_log[at:at + 1] != other_log[at:at + 1]:
            return at
    return None


def compare(one, other):
    """Return how the two books differ, as a pair (word, index)."""
    if not one.first_river() == other.first_river():
        return ("river", None)
    at = first_other_row(one.log(), other.log())
    return ("same", None) if at is None else ("row", at)


def deeds_of(book, word):
    """Return the indexes of the rows of the log that start with the word."""
    return [at for at, row in enumerate(book.log()) if row[0] == word]
