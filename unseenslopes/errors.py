"""The errors of the package."""


def shown(value):
    """A short text of any value for a message; long numbers cannot always be written by Python."""
    if isinstance(value, str):
        return repr(value)
    if isinstance(value, int) and abs(value) < 10 ** 30:
        return str(value)
    return "the value"


class SlopeError(ValueError):
    """The base of the errors about values that are wrong."""


class Missing(LookupError):
    """The base of the errors about things that are not there."""


class InvalidName(SlopeError):
    """A value that is no name."""

    def __init__(self, given):
        SlopeError.__init__(self, f"{shown(given)} is no valid name")
        self.code = "InvalidName"
        self.given = given


class InvalidNumber(SlopeError):
    """A value that is no number, or none that may stand here."""

    def __init__(self, given):
        SlopeError.__init__(self, f"{shown(given)} is no valid number")
        self.code = "InvalidNumber"
        self.given = given


class InvalidFact(SlopeError):
    """A fact of an unseen function that is none, or does not fit the others."""

    def __init__(self, what):
        SlopeError.__init__(self, f"no valid fact: {shown(what)}")
        self.code = "InvalidFact"
        self.what = what


class InvalidText(SlopeError):
    """A text that cannot be read from a place on."""

    def __init__(self, at):
        SlopeError.__init__(self, f"cannot be read at place {shown(at)}")
        self.code = "InvalidText"
        self.at = at


class WrongKind(SlopeError):
    """An expression that is a number instead of a function, or another kind of function."""

    def __init__(self, at):
        SlopeError.__init__(self, f"wrong kind at place {shown(at)}")
        self.code = "WrongKind"
        self.at = at


class InvalidBlank(SlopeError):
    """A blank at a place where none may stand."""

    def __init__(self, at):
        SlopeError.__init__(self, f"no blank may stand at place {shown(at)}")
        self.code = "InvalidBlank"
        self.at = at


class NameTaken(SlopeError):
    """A name that something else has."""

    def __init__(self, name):
        SlopeError.__init__(self, f"the name {shown(name)} is taken")
        self.code = "NameTaken"
        self.name = name


class TooLarge(SlopeError):
    """More of something than the limit."""

    def __init__(self, what, limit):
        SlopeError.__init__(self, f"{shown(what)} beyond the limit {shown(limit)}")
        self.code = "TooLarge"
        self.what = what
        self.limit = limit


class UnlikeWorlds(SlopeError):
    """Things of two different worlds."""

    def __init__(self):
        SlopeError.__init__(self, "the worlds are not the same")
        self.code = "UnlikeWorlds"


class InvalidWitness(SlopeError):
    """A witness without a fitting number or polynomial for a name."""

    def __init__(self, name):
        SlopeError.__init__(self, f"nothing fitting is given for {shown(name)}")
        self.code = "InvalidWitness"
        self.name = name


class InvalidRow(SlopeError):
    """A row of a code that is none."""

    def __init__(self, index):
        SlopeError.__init__(self, f"no valid row at index {shown(index)}")
        self.code = "InvalidRow"
        self.index = index


class NotNow(SlopeError):
    """A deed that is not possible at present."""

    def __init__(self, deed):
        SlopeError.__init__(self, f"{shown(deed)} is not possible now")
        self.code = "NotNow"
        self.deed = deed


class InvalidPage(SlopeError):
    """A page that cannot be read from a line on."""

    def __init__(self, line):
        SlopeError.__init__(self, f"no valid page at line {shown(line)}")
        self.code = "InvalidPage"
        self.line = line


class UnknownName(Missing):
    """A name that means nothing here."""

    def __init__(self, name):
        Missing.__init__(self, f"{shown(name)} is not known here")
        self.code = "UnknownName"
        self.name = name


class NothingLeft(Missing):
    """A deed for which nothing is left."""

    def __init__(self, deed):
        Missing.__init__(self, f"nothing is left for {shown(deed)}")
        self.code = "NothingLeft"
        self.deed = deed
