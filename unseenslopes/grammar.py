"""Texts of programs are read as trees."""

from unseenslopes.errors import InvalidText, TooLarge
from unseenslopes.nodes import OF_MAP, OF_NUMBER, Node, Tree
from unseenslopes.ratios import Ratio
from unseenslopes.tokens import tokens_of
from unseenslopes.unseen import is_name

MOST_TEXT = 600
MOST_LETS = 8
MOST_DEPTH = 12
ORDERS = ("0", "1", "2", "3", "4")


class Reader:
    """Goes through tokens; `depth` is the number of the SUMs around the next token."""

    def __init__(self, tokens):
        self.tokens = tokens
        self.index = 0
        self.depth = 0

    def ahead(self):
        """The next token."""
        return self.tokens[self.index]

    def step(self):
        """The next token, which is passed."""
        token = self.tokens[self.index]
        self.index += 1
        return token

    def is_at(self, text):
        """Whether the next token has a text."""
        return self.ahead().text == text

    def expect(self, text):
        """The next token, which must have a text and is passed."""
        if not self.is_at(text):
            raise InvalidText(self.ahead().at)
        return self.step()

    def expect_name(self):
        """The next token, which must be a name and is passed."""
        if not self.is_at_name():
            raise InvalidText(self.ahead().at)
        return self.step()

    def is_at_name(self):
        """Whether the next token is a name."""
        return self.ahead().kind == "word" and is_name(self.ahead().text)


def read_tree(text):
    """The tree of the text of a program."""
    if not isinstance(text, str):
        raise InvalidText(0)
    if len(text) > MOST_TEXT:
        raise TooLarge("text", MOST_TEXT)
    reader = Reader(tokens_of(text))
    lets = []
    while reader.is_at("let"):
        if len(lets) == MOST_LETS:
            raise TooLarge("lets", MOST_LETS)
        lets.append(read_let(reader))
    last = read_sum(reader)
    if reader.ahead().kind != "end":
        raise InvalidText(reader.ahead().at)
    return Tree(lets, last)


def read_let(reader):
    """The name and the node of a let."""
    reader.expect("let")
    name = reader.expect_name().text
    reader.expect("=")
    node = read_sum(reader)
    reader.expect(";")
    return name, node


def read_sum(reader):
    """The node of a SUM."""
    if reader.depth == MOST_DEPTH:
        raise TooLarge("nesting", MOST_DEPTH)
    reader.depth += 1
    parts = [read_product(reader)]
    signs = []
    while reader.is_at("+") or reader.is_at("-"):
        signs.append(reader.step())
        parts.append(read_product(reader))
    reader.depth -= 1
    if not signs:
        return parts[0]
    marks = [sign.at for sign in signs]
    return Node("plus", parts[0].at, parts=parts, held=[sign.text for sign in signs], marks=marks)


def read_product(reader):
    """The node of a PRODUCT."""
    parts = [read_signed(reader)]
    marks = []
    while reader.is_at("*"):
        marks.append(reader.step().at)
        parts.append(read_signed(reader))
    return Node("times", parts[0].at, parts=parts, marks=marks) if marks else parts[0]


def read_signed(reader):
    """The node of a SIGNED."""
    if reader.is_at("-"):
        at = reader.step().at
        return Node("minus", at, parts=[read_call(reader)])
    return read_call(reader)


def read_call(reader):
    """The node of a CALL."""
    head = read_named(reader) if reader.is_at_name() else read_factor(reader)
    parts = [head]
    marks = []
    while reader.is_at("("):
        marks.append(reader.ahead().at)
        parts.append(read_enclosed(reader))
    return Node("call", head.at, parts=parts, marks=marks) if marks else head


def read_named(reader):
    """The node that begins with a name: the name, its slopes, or its value at one or two arguments."""
    token = reader.step()
    if reader.is_at("["):
        return read_slopes(reader, token)
    head = Node("name", token.at, name=token.text)
    if not reader.is_at("("):
        return head
    mark = reader.step().at
    first = read_sum(reader)
    if reader.is_at(","):
        return read_pair(reader, token, (0, 0), first)
    reader.expect(")")
    return Node("call", token.at, parts=[head, first], marks=[mark])


def read_slopes(reader, token):
    """The node of a name with slopes, and with two arguments if it has two numbers of slopes."""
    reader.expect("[")
    orders = [read_order(reader)]
    if reader.is_at(","):
        reader.step()
        orders.append(read_order(reader))
    reader.expect("]")
    if len(orders) == 1:
        return Node("slopes", token.at, name=token.text, held=tuple(orders))
    reader.expect("(")
    return read_pair(reader, token, tuple(orders), read_sum(reader))


def read_order(reader):
    """A number of slopes."""
    if reader.ahead().text not in ORDERS:
        raise InvalidText(reader.ahead().at)
    return int(reader.step().text)


def read_pair(reader, token, orders, first):
    """The node of a value at two arguments, read from the comma on."""
    reader.expect(",")
    second = read_sum(reader)
    reader.expect(")")
    return Node("pair", token.at, parts=[first, second], name=token.text, held=orders)


def read_factor(reader):
    """The node of a FACTOR that does not begin with a name."""
    token = reader.ahead()
    if token.kind == "numeral":
        return Node("numeral", reader.step().at, held=Ratio.read(token.text))
    if token.kind == "blank":
        return Node("blank", reader.step().at, held=int(token.text[1]))
    if token.text == "(":
        return read_enclosed(reader)
    if token.text == "fn":
        return read_function(reader)
    if token.text == "slope":
        reader.step()
        return Node("slope", token.at, parts=[read_enclosed(reader)])
    if token.text == "integral":
        return read_integral(reader)
    raise InvalidText(token.at)


def read_enclosed(reader):
    """The node of a SUM in parentheses."""
    reader.expect("(")
    node = read_sum(reader)
    reader.expect(")")
    return node


def read_function(reader):
    """The node of a function."""
    at = reader.expect("fn").at
    kind = OF_NUMBER
    if reader.is_at("@"):
        reader.step()
        kind = OF_MAP
    name = reader.expect_name().text
    reader.expect(":")
    return Node("fn", at, parts=[read_sum(reader)], name=name, held=kind)


def read_integral(reader):
    """The node of an integral."""
    at = reader.expect("integral").at
    reader.expect("(")
    begin = read_sum(reader)
    reader.expect(",")
    end = read_sum(reader)
    reader.expect(",")
    name = reader.expect_name().text
    reader.expect(")")
    return Node("integral", at, parts=[begin, end], name=name)
