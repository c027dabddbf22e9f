"""The checks of programs: kinds, names and blanks.

A kind is a string with a sign for each parameter, OF_NUMBER or OF_MAP: a number has the kind "",
and a function from numbers to numbers has the kind "x". ARGUMENTS has the kind of what is passed
for each sign.
"""

from unseenslopes.errors import InvalidBlank, NameTaken, WrongKind
from unseenslopes.nodes import OF_NUMBER, blanks_of

A_NUMBER = ""
A_MAP = "x"
ARGUMENTS = {"x": "", "@": "x"}


def check_tree(world, tree):
    """Raises the first fault of a program, and sets the kinds of its functions."""
    scope = {}
    for name, node in tree.lets:
        kind = kind_of(world, node, scope, False)
        check_free(world, name, scope)
        scope = {**scope, name: kind}
    if kind_of(world, tree.last, scope, True) != A_NUMBER:
        raise WrongKind(place_of(tree.last))


def place_of(node):
    """The place that an expression bears."""
    if node.word == "call":
        return node.marks[-1]
    return node.at


def check_free(world, name, scope):
    """Raises NameTaken for a name that means something already."""
    if name in world or name in scope:
        raise NameTaken(name)


def kind_of(world, node, scope, may_be_blank):
    """The kind of a node, where a dict has the kinds of the names that are known there."""
    check = CHECKS[node.word]
    return check(world, node, scope, may_be_blank)


def ask_number(world, node, scope, may_be_blank, at):
    """Checks a node that must be a number."""
    if kind_of(world, node, scope, may_be_blank) != A_NUMBER:
        raise WrongKind(at)


def ask_arity(world, node, arity):
    """Checks the name of a node, which must be that of an unseen function of the arity."""
    if world.fact(node.name).arity != arity:
        raise WrongKind(node.at)


def kind_of_plus(world, node, scope, may_be_blank):
    """The kind of a sum."""
    places = [node.marks[0], *node.marks]
    for part, at in zip(node.parts, places):
        ask_number(world, part, scope, may_be_blank, at)
    return A_NUMBER


def kind_of_times(world, node, scope, may_be_blank):
    """The kind of a product, which may have blanks in one factor only."""
    ask_number(world, node.parts[0], scope, may_be_blank, node.marks[0])
    has_blanks = len(blanks_of(node.parts[0])) > 0
    for part, at in zip(node.parts[1:], node.marks):
        ask_number(world, part, scope, may_be_blank, at)
        if blanks_of(part):
            if has_blanks:
                raise InvalidBlank(at)
            has_blanks = True
    return A_NUMBER


def kind_of_minus(world, node, scope, may_be_blank):
    """The kind of an expression behind a minus sign."""
    ask_number(world, node.parts[0], scope, may_be_blank, node.at)
    return A_NUMBER


def kind_of_call(world, node, scope, _):
    """The kind of what a function answers."""
    kind = kind_of(world, node.parts[0], scope, False)
    for part, at in zip(node.parts[1:], node.marks):
        given = kind_of(world, part, scope, False)
        if kind == A_NUMBER or given != ARGUMENTS[kind[0]]:
            raise WrongKind(at)
        kind = kind[1:]
    return kind


def kind_of_numeral(world, node, scope, _):
    """The kind of a numeral."""
    return A_NUMBER


def kind_of_blank(world, node, scope, may_be_blank):
    """The kind of a blank."""
    if not may_be_blank:
        raise InvalidBlank(node.at)
    return A_NUMBER


def kind_of_name(world, node, scope, _):
    """The kind of what a name means."""
    if node.name in scope:
        return scope[node.name]
    if node.name in world.inputs():
        return A_NUMBER
    ask_arity(world, node, 1)
    return A_MAP


def kind_of_slopes(world, node, scope, _):
    """The kind of an unseen function with slopes."""
    ask_arity(world, node, 1)
    return A_MAP


def kind_of_pair(world, node, scope, _):
    """The kind of a value at two arguments."""
    for part in node.parts:
        ask_number(world, part, scope, False, node.at)
    ask_arity(world, node, 2)
    return A_NUMBER


def kind_of_function(world, node, scope, _):
    """The kind of a function, which is kept for its evaluation."""
    check_free(world, node.name, scope)
    inner = {**scope, node.name: ARGUMENTS[node.held]}
    node.kind = node.held + kind_of(world, node.parts[0], inner, False)
    return node.kind


def kind_of_slope(world, node, scope, _):
    """The kind of the slope of a function of a number."""
    kind = kind_of(world, node.parts[0], scope, False)
    if not kind.startswith(OF_NUMBER):
        raise WrongKind(node.at)
    return kind


def kind_of_integral(world, node, scope, _):
    """The kind of an integral."""
    for part in node.parts:
        ask_number(world, part, scope, False, node.at)
    ask_arity(world, node, 1)
    return A_NUMBER


CHECKS = {
    "plus": kind_of_plus,
    "times": kind_of_times,
    "minus": kind_of_minus,
    "call": kind_of_call,
    "numeral": kind_of_numeral,
    "blank": kind_of_blank,
    "name": kind_of_name,
    "slopes": kind_of_slopes,
    "pair": kind_of_pair,
    "fn": kind_of_function,
    "slope": kind_of_slope,
    "integral": kind_of_integral,
}
