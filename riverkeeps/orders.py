"""Orders: small programs that land things, read from a text and run in a world."""

from riverkeeps.deeds import world_after
from riverkeeps.errors import BadCount, BadOrder, OrderRefused
from riverkeeps.names import is_name
from riverkeeps.orderruns import Run, run_block

MAX_WORDS = 200
MAX_DEPTH = 6
STATEMENT_WORDS = ("land", "all", "settle", "while", "until", "if", "each")
CONDITION_WORDS = ("afloat", "kept", "sea", "any", "full")


class Reader:
    """The words of an order, read from left to right."""

    def __init__(self, words):
        self.words = words
        self.at = 0

    def peek(self):
        """Return the next word, or None behind the last one."""
        return self.words[self.at] if self.at < len(self.words) else None

    def take(self, allowed):
        """Return the next word and go on; raise BadOrder unless it is one of the allowed ones."""
        word = self.peek()
        if word not in allowed:
            raise BadOrder(self.at)
        self.at += 1
        return word

    def take_name(self):
        """Return the next word and go on; raise BadOrder unless it is a name."""
        word = self.peek()
        if word is None or not is_name(word):
            raise BadOrder(self.at)
        self.at += 1
        return word

    def take_thing(self, inside):
        """Return the next word and go on; it is a name or, inside of an `each`, the word `it`."""
        return self.take(("it",)) if inside and self.peek() == "it" else self.take_name()


def split_nots(condition):
    """Return the number of `not` ahead of a condition, and the condition behind them."""
    many = 0
    while condition[0] == "not":
        condition = condition[1]
        many += 1
    return (many, condition)


def with_nots(condition, many):
    """Return the condition with so many `not` ahead of it."""
    for _ in range(many):
        condition = ("not", condition)
    return condition


def read_condition(reader, inside):
    """Return the condition that the next words tell."""
    many = 0
    while reader.peek() == "not":
        reader.take(("not",))
        many += 1
    word = reader.take(CONDITION_WORDS)
    names = []
    if word in ("afloat", "kept", "sea"):
        names.append(reader.take_thing(inside))
    if word != "sea":
        names.append(reader.take_name())
    return with_nots(tuple([word] + names), many)


def read_block(reader, depth, inside):
    """Return the statements of the block of this depth that the next words tell."""
    if depth > MAX_DEPTH:
        raise BadOrder(reader.at)
    reader.take(("{",))
    statements = read_statements(reader, "}", depth, inside)
    reader.take(("}",))
    return statements


def read_statement(reader, depth, inside):
    """Return the statement that the next words tell; it stands in a block of this depth."""
    word = reader.take(STATEMENT_WORDS)
    if word == "land":
        return (word, reader.take_thing(inside))
    if word == "all":
        return (word, reader.take_name())
    if word == "settle":
        return (word,)
    if word == "each":
        town = reader.take_name()
        return (word, town, read_block(reader, depth + 1, True))
    condition = read_condition(reader, inside)
    body = read_block(reader, depth + 1, inside)
    if word != "if":
        return (word, condition, body)
    other = []
    if reader.peek() == "else":
        reader.take(("else",))
        other = read_block(reader, depth + 1, inside)
    return (word, condition, body, other)


def read_statements(reader, closing, depth, inside):
    """Return the statements up to the closing word, which is None at the end of the text."""
    if reader.peek() == closing:
        return []
    statements = [read_statement(reader, depth, inside)]
    while reader.peek() == ";":
        reader.take((";",))
        statements.append(read_statement(reader, depth, inside))
    return statements


def read_order(words):
    """Return the statements of an order; raise BadOrder."""
    reader = Reader(words)
    statements = read_statements(reader, None, 0, False)
    if reader.peek() is not None:
        raise BadOrder(reader.at)
    return statements


def condition_words(condition):
    """Return the words of a condition."""
    many, asked = split_nots(condition)
    return ["not"] * many + list(asked)


def block_words(statements):
    """Return the words of a block."""
    return ["{"] + order_words(statements) + ["}"]


def statement_words(statement):
    """Return the words of a statement, without an `else` that has an empty block."""
    word = statement[0]
    if word in ("land", "all", "settle"):
        return list(statement)
    asked = [statement[1]] if word == "each" else condition_words(statement[1])
    words = [word] + asked + block_words(statement[2])
    if word == "if" and statement[3] != []:
        words = words + ["else"] + block_words(statement[3])
    return words


def order_words(statements):
    """Return the words of statements."""
    words = []
    for statement in statements:
        if words:
            words.append(";")
        words.extend(statement_words(statement))
    return words


def copied_statements(statements):
    """Return a copy of the statements that shares no list with them."""
    return [tuple([copied_statements(part) if isinstance(part, list) else part for part in statement])
            for statement in statements]


def blocks_of(statement):
    """Return the blocks of a statement."""
    return [part for part in statement if isinstance(part, list)]


def all_statements(statements):
    """Return the statements at every depth together."""
    listed = list(statements)
    for statement in statements:
        for block in blocks_of(statement):
            listed.extend(all_statements(block))
    return listed


class Order:
    """An order, read from a text."""

    def __init__(self, text):
        words = [word for word in text.replace("\n", " ").split(" ") if word != ""]
        if len(words) > MAX_WORDS:
            raise BadCount("words", len(words))
        self._statements = read_order(words)
        self._text = " ".join(order_words(self._statements))
        self._listed = all_statements(self._statements)

    @property
    def text(self):
        """The canonical text."""
        return self._text

    @property
    def statements(self):
        """The statements, with those of their blocks inside of them."""
        return copied_statements(self._statements)

    def __call__(self, world):
        history, spot, cause = trace(self, world)
        if cause is not None:
            raise OrderRefused(spot, cause)
        return world_after(world, history)

    def __len__(self):
        return len(self._listed)

    def __eq__(self, other):
        return isinstance(other, Order) and self._text == other._text


def plain_condition(condition):
    """Return the condition without each `not not`."""
    many, asked = split_nots(condition)
    return with_nots(asked, many % 2)


def plain_statement(statement):
    """Return the plain form of a statement."""
    word = statement[0]
    if word == "each":
        return (word, statement[1], plain_statements(statement[2]))
    if word == "while":
        return (word, plain_condition(statement[1]), plain_statements(statement[2]))
    if word == "until":
        return ("while", plain_condition(("not", statement[1])), plain_statements(statement[2]))
    if word == "if":
        return (word, plain_condition(statement[1]), plain_statements(statement[2]), plain_statements(statement[3]))
    return statement


def plain_statements(statements):
    """Return the plain forms of statements."""
    return [plain_statement(statement) for statement in statements]


def plain(order):
    """Return the plain form of the order; raise BadCount if it has too many words."""
    return Order(" ".join(order_words(plain_statements(order.statements))))


def trace(order, world):
    """Return the landings that the run does in the world, and the spot and the cause of its refusal, or None."""
    run = Run(world)
    try:
        run_block(run, order.statements, (), None)
    except OrderRefused as refused:
        return (run.history, refused.spot, refused.cause)
    return (run.history, None, None)
