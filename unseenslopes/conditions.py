"""The conditions for blanks, and their solutions.

A row is a list of the numbers that belong to the blanks, with the number without a blank as its
last item; the sum that it stands for must be 0. The key of a condition is a tuple of the order of
the slope and the text of the product.
"""

from unseenslopes.near import differences
from unseenslopes.polys import key_text
from unseenslopes.ratios import Ratio


def blanks_up_to(one, other):
    """The greatest number of a blank in two programs; 0 without blanks."""
    return max([*one.blanks(), *other.blanks()], default=0)


def conditions_of(one, other, name, power):
    """The dict from keys to rows of the conditions that make two programs alike."""
    many = blanks_up_to(one, other)
    rows = {}
    for order, form in enumerate(differences(one, other, name, power)):
        table = form.poly.table
        for key in table:
            product = [(text, times) for text, times in key if not text.startswith("?")]
            row = rows.setdefault((order, key_text(product)), [Ratio(0) for _ in range(many + 1)])
            row[blank_index(key, many)] = table[key]
    return rows


def blank_index(key, many):
    """The index in a row that belongs to a product."""
    for text, _ in key:
        if text.startswith("?"):
            return int(text[1:]) - 1
    return many


class Weighted:
    """A row that is the sum of conditions times weights, by a dict from their keys."""

    def __init__(self, row, shares):
        self.row = row
        self.shares = shares


def times_number(weighted, factor):
    """A weighted row times a Ratio."""
    weights = {key: weighted.shares[key] * factor for key in weighted.shares}
    return Weighted([worth * factor for worth in weighted.row], weights)


def plus_row(one, other):
    """The sum of two weighted rows."""
    weights = {key: one.shares[key] for key in one.shares}
    for key in other.shares:
        weights[key] = weights[key] + other.shares[key] if key in weights else other.shares[key]
    kept = {key: weights[key] for key in weights if weights[key].top != 0}
    return Weighted([left + right for left, right in zip(one.row, other.row)], kept)


def without(weighted, column, pivot):
    """A weighted row from which a pivot is taken so that its column is 0."""
    if weighted.row[column].top == 0:
        return weighted
    return plus_row(weighted, times_number(pivot, -weighted.row[column]))


def lead_of(row):
    """The first column that is not 0, that of the number last; None for a row of zeros."""
    for column, worth in enumerate(row):
        if worth.top != 0:
            return column
    return None


def solved(conditions, many):
    """The dict from columns to their pivots.

    A pivot is a weighted row that has 1 in its column, 0 in all lower ones and in those of the
    other pivots. If the conditions bar one another, there is a pivot in the column of the number.
    """
    pivots = {}
    for key in sorted(conditions):
        weighted = Weighted(conditions[key], {key: Ratio(1)})
        for column in pivots:
            weighted = without(weighted, column, pivots[column])
        lead = lead_of(weighted.row)
        if lead is not None:
            pivot = times_number(weighted, Ratio(1).over(weighted.row[lead]))
            pivots = {column: without(pivots[column], lead, pivot) for column in pivots}
            pivots[lead] = pivot
            if lead == many:
                return pivots
    return pivots


def point_of(pivots, many):
    """The solution in which all blanks without a pivot are 0."""
    return [-pivots[column].row[many] if column in pivots else Ratio(0) for column in range(many)]


def direction_of(pivots, free, many):
    """What may be added to a solution for a blank without a pivot."""
    numbers = [-pivots[column].row[free] if column in pivots else Ratio(0) for column in range(many)]
    numbers[free] = Ratio(1)
    return numbers
