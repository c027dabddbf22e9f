"""Atoms, and sums of products of atoms as tables; the arithmetic below the forms.

The key of a product is the ascending tuple of the pairs (text of an atom, power). Tables and
dicts of atoms are never changed once a Poly has them, so that Polys may share them.
"""

from unseenslopes.ratios import Ratio, ratio_text

ONE = ()


class Atom:
    """An input, a blank, a coefficient, or an unseen function with slopes at forms.

    `name` is the name of the input or of the function; `orders` and `given` are empty tuples
    unless it is an unseen function at forms.
    """

    def __init__(self, text, name, orders=(), given=()):
        self.text = text
        self.name = name
        self.orders = orders
        self.given = given


class Poly:
    """A table from keys of products to coefficients that are not 0, and the atoms by their texts."""

    def __init__(self, table, atoms):
        self.table = table
        self.atoms = atoms


def poly_of(table, atoms):
    """The Poly of a table that may have coefficients 0, and of a dict that may have needless atoms."""
    kept = {key: table[key] for key in table if table[key].top != 0}
    return Poly(kept, {text: atoms[text] for key in kept for text, _ in key})


def constant_poly(ratio):
    """The Poly of a Ratio."""
    return poly_of({ONE: ratio}, {})


def atom_poly(atom):
    """The Poly of one atom."""
    return Poly({((atom.text, 1),): Ratio(1)}, {atom.text: atom})


def joined_key(one, other):
    """The key of the product of two products."""
    if one == ONE:
        return other
    powers = {text: power for text, power in one}
    for text, power in other:
        powers[text] = powers.get(text, 0) + power
    return tuple([(text, powers[text]) for text in sorted(powers)])


def summed(polys):
    """The sum of a list of Polys."""
    table = {}
    atoms = {}
    for poly in polys:
        for key in poly.table:
            table[key] = table[key] + poly.table[key] if key in table else poly.table[key]
        atoms.update(poly.atoms)
    return poly_of(table, atoms)


def times(one, other):
    """The product of two Polys."""
    table = {}
    for left in one.table:
        for right in other.table:
            key = joined_key(left, right)
            worth = one.table[left] * other.table[right]
            table[key] = table[key] + worth if key in table else worth
    return poly_of(table, {**one.atoms, **other.atoms})


def scaled(poly, ratio):
    """A Poly times a Ratio."""
    return poly_of({key: poly.table[key] * ratio for key in poly.table}, poly.atoms)


def raised(poly, power):
    """A Poly to a power from 0 on."""
    result = constant_poly(Ratio(1))
    for _ in range(power):
        result = times(result, poly)
    return result


def key_text(key):
    """The text of a product."""
    return "*".join([text if power == 1 else f"{text}^{power}" for text, power in key])


def product_rows(poly):
    """The ascending list of the tuples (text of a product, coefficient)."""
    worths = {key_text(key): poly.table[key] for key in poly.table}
    return [(text, worths[text]) for text in sorted(worths)]


def row_text(text, size):
    """The text of a product with a coefficient above 0."""
    if text == "":
        return ratio_text(size)
    if size.top == size.bottom:
        return text
    return f"{ratio_text(size)}*{text}"


def rows_text(rows):
    """The text of a form, from its ascending list of products."""
    pieces = []
    for text, worth in rows:
        if worth.top < 0:
            pieces.append(" - " if pieces else "-")
        elif pieces:
            pieces.append(" + ")
        pieces.append(row_text(text, abs(worth)))
    return "".join(pieces) if pieces else "0"
