"""Polynomials of one and of two arguments."""

from unseenslopes.errors import InvalidNumber
from unseenslopes.ratios import Ratio, is_integer, is_number, ratio_of


def without_last_zeros(worths):
    """A list of Ratios without the zeros at its end."""
    end = len(worths)
    while end > 0 and worths[end - 1].top == 0:
        end -= 1
    return worths[:end]


def slope_worths(worths):
    """The coefficients of the slopes of a polynomial, from the list of its own ones."""
    return [worth * power for power, worth in enumerate(worths)][1:]


class Curve:
    """A polynomial of one argument; it does not change."""

    def __init__(self, worths):
        self._worths = without_last_zeros([ratio_of(worth) for worth in worths])

    def worths(self):
        """The list of the coefficients by their powers, without zeros at its end."""
        return list(self._worths)

    @property
    def degree_of(self):
        """The degree, -1 for the polynomial 0."""
        return len(self._worths) - 1

    def slope_curve(self, times=1):
        """The polynomial of the slopes, taken some times."""
        if not is_integer(times) or times < 0:
            raise InvalidNumber(times)
        worths = self._worths
        for _ in range(min(times, len(worths))):
            worths = slope_worths(worths)
        return Curve(worths)

    def integral_curve(self, begin=0):
        """The polynomial of the integrals from a number on."""
        worths = [Ratio(0), *[worth.over(power + 1) for power, worth in enumerate(self._worths)]]
        raised = Curve(worths)
        return Curve([-raised(begin), *worths[1:]])

    def __call__(self, place):
        total = Ratio(0)
        for worth in self._worths[::-1]:
            total = total * place + worth
        return total

    def __eq__(self, other):
        return isinstance(other, Curve) and self._worths == other._worths

    def __str__(self):
        return " ".join([str(worth) for worth in self._worths])

    def __repr__(self):
        return f"Curve({self})"


def is_power(value):
    """Whether any value is an integer from 0 on."""
    return is_integer(value) and value >= 0


def check_row(row):
    """Raises the first fault of a row that is to be two powers and a number."""
    one, other, number = row
    if not is_power(one):
        raise InvalidNumber(one)
    if not is_power(other):
        raise InvalidNumber(other)
    if not is_number(number):
        raise InvalidNumber(number)


def table_of(rows):
    """The ascending dict from pairs of powers to coefficients that are not 0."""
    table = {}
    for one, other, number in rows:
        worth = ratio_of(number)
        table[one, other] = table[one, other] + worth if (one, other) in table else worth
    return {powers: table[powers] for powers in sorted(table) if table[powers].top != 0}


def powers_to(place, most):
    """The list of the powers of a number from 0 to most."""
    powers = [Ratio(1)]
    for _ in range(most):
        powers.append(powers[-1] * place)
    return powers


class Sheet:
    """A polynomial of two arguments; it does not change."""

    def __init__(self, rows):
        for row in rows:
            check_row(row)
        self._table = table_of(rows)

    def told_rows(self):
        """The ascending list of the tuples of the two powers and their coefficient."""
        return [(one, other, worth) for (one, other), worth in self._table.items()]

    def slope_sheet(self, which):
        """The polynomial of the slopes by one argument, 0 or 1."""
        if not is_integer(which) or which not in (0, 1):
            raise InvalidNumber(which)
        if which == 0:
            rows = [(one - 1, other, worth * one) for one, other, worth in self.told_rows() if one > 0]
        else:
            rows = [(one, other - 1, worth * other) for one, other, worth in self.told_rows() if other > 0]
        return Sheet(rows)

    def swapped(self):
        """The polynomial with the arguments exchanged."""
        return Sheet([(other, one, worth) for one, other, worth in self.told_rows()])

    def __call__(self, one, other):
        left = powers_to(one, max([powers[0] for powers in self._table], default=0))
        right = powers_to(other, max([powers[1] for powers in self._table], default=0))
        total = Ratio(0)
        for first, second, worth in self.told_rows():
            total = total + worth * left[first] * right[second]
        return total

    def __eq__(self, other):
        return isinstance(other, Sheet) and self._table == other._table

    def __str__(self):
        return ", ".join([f"{one} {other} {worth}" for one, other, worth in self.told_rows()])

    def __repr__(self):
        return f"Sheet({self})"
