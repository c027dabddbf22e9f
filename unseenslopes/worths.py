"""The values of forms, from the values of their atoms."""

from unseenslopes.curves import Curve
from unseenslopes.ratios import Ratio


def power_of(worth, power):
    """A Ratio to a power from 0 on."""
    total = Ratio(1)
    for _ in range(power):
        total = total * worth
    return total


def form_worth(form, worths):
    """The value of a form, from a dict of the values of its atoms by their texts."""
    total = Ratio(0)
    for key in form.poly.table:
        product = form.poly.table[key]
        for text, power in key:
            product = product * power_of(worths[text], power)
        total = total + product
    return total


def is_coefficient(atom):
    """Whether an atom without forms within is a coefficient of a function, not an input."""
    return "." in atom.text


def coefficient_power(atom):
    """The power that a coefficient of a function belongs to."""
    name, dot, power = atom.text.partition(".")
    return int(power)


def worths_about(curve, centre):
    """The coefficients of a polynomial by the powers of its argument less a centre."""
    if centre.top == 0:
        return curve.worths()
    worths = []
    slope = curve
    factor = Ratio(1)
    while slope.degree_of >= 0:
        worths.append(slope(centre) * factor)
        slope = slope.slope_curve()
        factor = factor.over(len(worths))
    return worths


def curve_about(worths, centre):
    """The polynomial with coefficients by the powers of its argument less a centre."""
    found = []
    for worth in worths[::-1]:
        found = added(times_line(found, centre), [worth])
    return Curve(found)


def added(one, other):
    """The sum of two lists of coefficients."""
    longer, shorter = (one, other) if len(one) >= len(other) else (other, one)
    head = [left + right for left, right in zip(longer, shorter)]
    return [*head, *longer[len(shorter):]]


def times_line(worths, centre):
    """The list of coefficients times the argument less a number."""
    return added([Ratio(0), *worths], [worth * -centre for worth in worths])


def sheet_value(sheet, orders, given):
    """The value of a polynomial of two arguments with slopes at Ratios."""
    slope = sheet
    for which, order in enumerate(orders):
        for _ in range(order):
            slope = slope.slope_sheet(which)
    return slope(given[0], given[1])
