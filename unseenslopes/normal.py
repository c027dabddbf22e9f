"""The normal form of an unseen function at forms, by the facts that are known."""

from unseenslopes.forms import Form, constant, form_power
from unseenslopes.polys import Atom, atom_poly
from unseenslopes.ratios import Ratio

INTEGRAL = -1


def plain_form(text, name):
    """The form of an atom without forms within: an input, a blank or a coefficient."""
    return Form(atom_poly(Atom(text, name)))


def orders_text(orders):
    """The text of the numbers of slopes; none for a value without slopes."""
    if not any([order != 0 for order in orders]):
        return ""
    return "[" + ",".join([str(order) for order in orders]) + "]"


def unseen_atom(name, orders, given):
    """The form of an unseen function with some slopes at forms, as it stands."""
    places = ", ".join([part.text for part in given])
    return Form(atom_poly(Atom(f"{name}{orders_text(orders)}({places})", name, orders, given)))


def unseen_form(world, name, orders, given):
    """The normal form of an unseen function, with a tuple of numbers of slopes, at a tuple of forms."""
    fact = world.fact(name)
    if fact.arity == 2:
        return pair_form(fact, name, orders, given)
    if fact.degree is not None:
        return degree_form(fact, name, orders[0], given[0])
    if orders[0] == INTEGRAL and given[0].text == str(fact.centre):
        return constant(0)
    if fact.mirror is not None:
        return mirror_form(fact, name, orders, given)
    return unseen_atom(name, orders, given)


def mirror_form(fact, name, orders, given):
    """The normal form of an even or odd function without a degree."""
    mirrored = 2 * fact.centre - given[0]
    is_turned = (fact.mirror == "odd") != (orders[0] & 1 == 1)
    if mirrored.text == given[0].text and is_turned:
        return constant(0)
    if mirrored.text >= given[0].text:
        return unseen_atom(name, orders, given)
    form = unseen_atom(name, orders, (mirrored,))
    return -form if is_turned else form


def pair_form(fact, name, orders, given):
    """The normal form of a function of two arguments."""
    one, other = given
    is_level = one.text == other.text
    if fact.swap == "minus" and is_level and orders[0] == orders[1]:
        return constant(0)
    is_low = one.text < other.text or is_level and orders[0] >= orders[1]
    if fact.swap is None or is_low:
        return unseen_atom(name, orders, given)
    form = unseen_atom(name, (orders[1], orders[0]), (other, one))
    return -form if fact.swap == "minus" else form


def degree_form(fact, name, order, given):
    """The normal form of a polynomial: its coefficients times slopes or integrals of powers."""
    base = given - fact.centre
    total = constant(0)
    for power in range(fact.degree + 1):
        if is_power_of(fact, power):
            total = total + plain_form(f"{name}.{power}", name) * power_slope(base, power, order)
    return total


def is_power_of(fact, power):
    """Whether a polynomial with the facts can have a power."""
    if fact.mirror is None:
        return True
    return (power & 1 == 1) == (fact.mirror == "odd")


def power_slope(base, power, order):
    """The slope of an order of a power of a form, taken as a number; the order -1 is the integral."""
    if order == INTEGRAL:
        return form_power(base, power + 1) * Ratio(1, power + 1)
    if order > power:
        return constant(0)
    factor = 1
    for step in range(order):
        factor = factor * (power - step)
    return form_power(base, power - order) * factor
