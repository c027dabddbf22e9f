"""Exact fractions in lowest terms."""

from math import gcd

from unseenslopes.errors import InvalidNumber, InvalidText

DIGITS = "0123456789"
MOST_DIGITS = 30
CHUNK = 60
CHUNK_BASE = 10 ** 60


def is_integer(value):
    """Whether any value is an integer; a boolean is none."""
    return isinstance(value, int) and not isinstance(value, bool)


def is_number(value):
    """Whether any value is an integer or a Ratio."""
    return isinstance(value, Ratio) or is_integer(value)


def ratio_of(number):
    """The Ratio with the value of a number; raises InvalidNumber for any other value."""
    if isinstance(number, Ratio):
        return number
    return Ratio(number)


def is_digits(text):
    """Whether a string is a whole number of at most 30 characters without a leading zero."""
    if not 1 <= len(text) <= MOST_DIGITS:
        return False
    if not all([sign in DIGITS for sign in text]):
        return False
    return text == "0" or text[0] != "0"


def is_numeral(text):
    """Whether a string is digits, or digits, a slash and digits that are not 0."""
    top, slash, bottom = text.partition("/")
    if slash == "":
        return is_digits(top)
    return is_digits(top) and is_digits(bottom) and bottom != "0"


def integer_text(number):
    """The text of an integer; piece by piece, since Python refuses to write more than 4300 digits at once."""
    pieces = []
    rest = abs(number)
    while rest >= CHUNK_BASE:
        rest, low = divmod(rest, CHUNK_BASE)
        pieces.append(str(low).zfill(CHUNK))
    pieces.append(str(rest))
    if number < 0:
        pieces.append("-")
    return "".join(pieces[::-1])


def ratio_text(ratio):
    """The text of a Ratio."""
    if ratio.bottom == 1:
        return integer_text(ratio.top)
    return f"{integer_text(ratio.top)}/{integer_text(ratio.bottom)}"


class Ratio:
    """A fraction that does not change, in lowest terms with a bottom above 0."""

    def __init__(self, top, bottom=1):
        if not is_integer(top):
            raise InvalidNumber(top)
        if not is_integer(bottom) or bottom == 0:
            raise InvalidNumber(bottom)
        common = gcd(top, bottom)
        if bottom < 0:
            common = -common
        self.top = top // common
        self.bottom = bottom // common

    @staticmethod
    def read(text):
        """The Ratio with a text, in lowest terms or not."""
        if not isinstance(text, str):
            raise InvalidText(0)
        numeral = text.removeprefix("-")
        if not is_numeral(numeral):
            raise InvalidText(0)
        top, slash, bottom = numeral.partition("/")
        ratio = Ratio(int(top), int(bottom) if slash == "/" else 1)
        return ratio if numeral == text else -ratio

    @property
    def whole(self):
        """Whether this is an integer."""
        return self.bottom == 1

    def __add__(self, other):
        if not is_number(other):
            return NotImplemented
        added = ratio_of(other)
        return Ratio(self.top * added.bottom + added.top * self.bottom, self.bottom * added.bottom)

    def __radd__(self, other):
        return self + other

    def __sub__(self, other):
        if not is_number(other):
            return NotImplemented
        return self + -ratio_of(other)

    def __rsub__(self, other):
        return -self + other

    def __mul__(self, other):
        if not is_number(other):
            return NotImplemented
        factor = ratio_of(other)
        return Ratio(self.top * factor.top, self.bottom * factor.bottom)

    def __rmul__(self, other):
        return self * other

    def __neg__(self):
        return Ratio(-self.top, self.bottom)

    def __abs__(self):
        return Ratio(abs(self.top), self.bottom)

    def over(self, other):
        """The quotient by a number that is not 0."""
        if not is_number(other) or ratio_of(other).top == 0:
            raise InvalidNumber(other)
        divisor = ratio_of(other)
        return Ratio(self.top * divisor.bottom, self.bottom * divisor.top)

    def __eq__(self, other):
        if isinstance(other, Ratio):
            return self.top == other.top and self.bottom == other.bottom
        return is_integer(other) and self.bottom == 1 and self.top == other

    def __str__(self):
        return f"{ratio_text(self)}"

    def __repr__(self):
        return f"Ratio({self})"
