"""The differences of the meanings of two programs, also near the number 0 of an input."""

from unseenslopes.calculus import put_for, slope_of
from unseenslopes.errors import InvalidNumber, UnknownName, UnlikeWorlds
from unseenslopes.meaning import meaning
from unseenslopes.ratios import is_integer
from unseenslopes.witnesses import check_blanks

MOST_POWER = 6


def check_worlds(one, other):
    """Raises UnlikeWorlds for programs of unlike worlds."""
    if one.world != other.world:
        raise UnlikeWorlds()


def check_pair(one, other):
    """Raises the first fault of two programs that are to be compared."""
    check_worlds(one, other)
    check_blanks(one)
    check_blanks(other)


def check_near(world, name, power):
    """Raises the first fault of an input and a power up to which programs are to be compared."""
    if name not in world.inputs():
        raise UnknownName(name)
    if not is_integer(power) or not 1 <= power <= MOST_POWER:
        raise InvalidNumber(power)


def difference(one, other):
    """The meaning of one program less that of the other."""
    return meaning(one) - meaning(other)


def differences(one, other, name, power):
    """The list of the forms that are all 0 if two programs are alike, or alike up to the power of an input."""
    form = difference(one, other)
    if name is None:
        return [form]
    forms = []
    for order in range(power):
        if order > 0:
            form = slope_of(one.world, form, name)
        forms.append(put_for(one.world, form, name, 0))
    return forms


def are_alike(one, other, name, power):
    """Whether two programs are of one world and alike, or alike up to the power of an input."""
    return one.world == other.world and first_unlike(one, other, name, power) is None


def first_unlike(one, other, name, power):
    """The tuple of an order of slopes and the first form of the differences that is not 0; None for no one."""
    for order, form in enumerate(differences(one, other, name, power)):
        if not form.is_zero:
            return (order, form)
    return None
