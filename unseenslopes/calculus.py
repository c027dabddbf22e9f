"""Inputs and unseen functions as forms, slopes of forms, and forms put for inputs."""

from unseenslopes.errors import InvalidNumber, UnknownName, WrongKind
from unseenslopes.forms import Form, form_of
from unseenslopes.normal import INTEGRAL, plain_form, unseen_form
from unseenslopes.polys import atom_poly, constant_poly, poly_of, summed, times
from unseenslopes.ratios import Ratio, is_integer

MOST_ORDER = 12


def input_form(world, name):
    """The form of an input."""
    if name not in world.inputs():
        raise UnknownName(name)
    return plain_form(name, name)


def unseen_at(world, name, orders, given):
    """The normal form of an unseen function, with numbers of slopes, at forms or numbers."""
    arity = world.fact(name).arity
    if len(orders) != arity or len(given) != arity:
        raise WrongKind(0)
    for order in orders:
        if not is_integer(order) or not 0 <= order <= MOST_ORDER:
            raise InvalidNumber(order)
    return unseen_form(world, name, tuple(orders), tuple([form_of(part) for part in given]))


def integral_of(world, begin, end, name):
    """The integral of an unseen function from one form or number to another one."""
    if world.fact(name).arity != 1:
        raise WrongKind(0)
    upper = unseen_form(world, name, (INTEGRAL,), (form_of(end),))
    return upper - unseen_form(world, name, (INTEGRAL,), (form_of(begin),))


def atoms_within(form):
    """The atoms of a form and of all forms within, each once, each behind those within it.

    Without recursion, since functions may be applied to one another thousands of times.
    """
    found = {}
    waiting = [(atom, False) for atom in form.poly.atoms.values()]
    while waiting:
        atom, is_opened = waiting.pop()
        if is_opened:
            found[atom.text] = atom
        elif atom.text not in found:
            waiting.append((atom, True))
            for part in atom.given:
                waiting.extend([(inner, False) for inner in part.poly.atoms.values()])
    return list(found.values())


def slope_of(world, form, name):
    """The slope of a form by an input."""
    slopes = {}
    for atom in atoms_within(form):
        slope = atom_slope(world, atom, name, slopes)
        if slope.table:
            slopes[atom.text] = slope
    return Form(poly_slope(form.poly, slopes))


def atom_slope(world, atom, name, slopes):
    """The slope of an atom, from a dict of those of the atoms within that are not 0."""
    if atom.text == name:
        return constant_poly(Ratio(1))
    parts = []
    for index, part in enumerate(atom.given):
        inner = poly_slope(part.poly, slopes)
        if inner.table:
            orders = [order + 1 if at == index else order for at, order in enumerate(atom.orders)]
            outer = unseen_form(world, atom.name, tuple(orders), atom.given)
            parts.append(times(outer.poly, inner))
    return summed(parts)


def poly_slope(poly, slopes):
    """The slope of a Poly, from a dict of the slopes of its atoms that are not 0."""
    tables = {}
    for key in poly.table:
        for text, power in key:
            if text in slopes:
                table = tables.setdefault(text, {})
                table[lowered_key(key, text)] = poly.table[key] * power
    return summed([times(poly_of(tables[text], poly.atoms), slopes[text]) for text in tables])


def lowered_key(key, text):
    """The key of a product with the power of one of its atoms less 1."""
    lowered = [(found, power - 1 if found == text else power) for found, power in key]
    return tuple([(found, power) for found, power in lowered if power > 0])


def put_for(world, form, name, other):
    """The form in which a form or a number is put for an input."""
    images = {name: form_of(other).poly}
    forms = {}
    for atom in atoms_within(form):
        if any([is_touched(part, images) for part in atom.given]):
            given = tuple([put_part(part, images, forms) for part in atom.given])
            images[atom.text] = unseen_form(world, atom.name, atom.orders, given).poly
    return put_part(form, images, forms)


def is_touched(form, images):
    """Whether a form has an atom for which something else stands in."""
    return any([text in images for text in form.poly.atoms])


def put_part(form, images, forms):
    """The form in which images stand in for atoms; known results are kept in `forms`."""
    if not is_touched(form, images):
        return form
    if form.text not in forms:
        forms[form.text] = Form(put_poly(form.poly, images))
    return forms[form.text]


def put_poly(poly, images):
    """The Poly in which Polys stand in for atoms."""
    return summed([put_product(poly, key, images) for key in poly.table])


def put_product(poly, key, images):
    """The Poly of one product of a Poly, with its coefficient, in which Polys stand in for atoms."""
    product = constant_poly(poly.table[key])
    for text, power in key:
        factor = images[text] if text in images else atom_poly(poly.atoms[text])
        for _ in range(power):
            product = times(product, factor)
    return product
