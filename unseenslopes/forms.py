"""Forms: sums of products of atoms with their texts."""

from unseenslopes.polys import constant_poly, product_rows, raised, rows_text, scaled, summed, times
from unseenslopes.ratios import Ratio, is_number, ratio_of


def is_term(value):
    """Whether a value is a form or a number."""
    return isinstance(value, Form) or is_number(value)


def poly_in(value):
    """The Poly of a form or a number."""
    if isinstance(value, Form):
        return value.poly
    return constant_poly(ratio_of(value))


class Form:
    """A sum of products of atoms; it does not change."""

    def __init__(self, poly):
        self.poly = poly
        self.text = rows_text(product_rows(poly))

    @property
    def is_zero(self):
        """Whether there are no products."""
        return len(self.poly.table) == 0

    def terms(self):
        """The ascending list of the tuples (text of a product, coefficient)."""
        return product_rows(self.poly)

    def __add__(self, other):
        if not is_term(other):
            return NotImplemented
        return Form(summed([self.poly, poly_in(other)]))

    def __radd__(self, other):
        return self + other

    def __sub__(self, other):
        if not is_term(other):
            return NotImplemented
        return Form(summed([self.poly, scaled(poly_in(other), Ratio(-1))]))

    def __rsub__(self, other):
        return -self + other

    def __mul__(self, other):
        if not is_term(other):
            return NotImplemented
        return Form(times(self.poly, poly_in(other)))

    def __rmul__(self, other):
        return self * other

    def __neg__(self):
        return Form(scaled(self.poly, Ratio(-1)))

    def __pow__(self, other):
        return form_power(self, other)

    def __eq__(self, other):
        return isinstance(other, Form) and self.text == other.text

    def __str__(self):
        return f"{self.text}"

    def __repr__(self):
        return f"Form({self.text})"


def constant(number):
    """The form of a number."""
    return Form(constant_poly(ratio_of(number)))


def form_of(value):
    """The form of a form or a number."""
    return value if isinstance(value, Form) else constant(value)


def form_power(form, power):
    """A form to a power from 0 on."""
    return Form(raised(form.poly, power))
