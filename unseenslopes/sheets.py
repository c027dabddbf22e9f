"""Polynomials of two arguments that are drawn place by place, as those of one are in `sketches`."""

from unseenslopes.curves import Sheet
from unseenslopes.ratios import Ratio
from unseenslopes.worths import sheet_value, times_line


class SheetSketch:
    """The polynomial of a function of two arguments; a pair of places has one mark.

    `sign` is 1 or -1 if the polynomial keeps or changes its sign when the arguments are exchanged,
    and 0 otherwise. Its slopes at an exchanged pair follow from those at the pair itself.
    """

    def __init__(self, fact):
        self.sign = 0
        if fact.swap is not None:
            self.sign = -1 if fact.swap == "minus" else 1
        self.drawn = Sheet([])
        self.marks = {}

    def begin(self, degree, picks):
        """Begins with a polynomial of a degree."""
        rows = [(one, other, picks.step()) for one in range(degree + 1) for other in range(degree + 1 - one)]
        self.drawn = Sheet(self.with_swapped(rows))

    def with_swapped(self, rows):
        """Rows with those that belong to the exchanged arguments."""
        if self.sign == 0:
            return rows
        return [*rows, *[(other, one, worth * self.sign) for one, other, worth in rows]]

    def key_of(self, places):
        """The key of a pair of places."""
        return f"{places[0]} {places[1]}"

    def mark_of(self, places):
        """The mark of a pair of places."""
        key = self.key_of(places)
        return self.marks[key][1] if key in self.marks else 0

    def is_exchanged(self, places):
        """Whether a pair of places is marked the other way round."""
        return self.sign != 0 and places[0] != places[1] and self.key_of(places[::-1]) in self.marks

    def worth_at(self, orders, places):
        """The value with slopes at a pair of places."""
        return sheet_value(self.drawn, orders, places)

    def is_loose(self, orders, places):
        """Whether the value with slopes at a pair of places can be chosen."""
        if self.is_exchanged(places):
            return False
        if self.sign != 0 and places[0] == places[1]:
            if orders[0] < orders[1] or orders[0] == orders[1] and self.sign == -1:
                return False
        return sum(orders) >= self.mark_of(places)

    def keep(self, orders, places):
        """Marks a pair of places, so that its values with as many and with fewer slopes are kept."""
        kept = places[::-1] if self.is_exchanged(places) else places
        self.marks[self.key_of(kept)] = (kept, max(sum(orders) + 1, self.mark_of(kept)))

    def barred(self, level, places):
        """The other pairs of places at which an addition must be 0, each with the number of times."""
        rows = [row for row in self.marks.values() if row[0] != places]
        if self.sign == 0:
            return rows
        rows.append((places, level + 1))
        swapped = [((other, one), mark) for (one, other), mark in rows if one != other]
        return [*rows[:-1], *swapped]

    def bend(self, orders, places, gap):
        """Adds something to a value that is loose; what is kept and what has fewer slopes stays."""
        left = [Ratio(1)]
        right = [Ratio(1)]
        for (one, other), mark in self.barred(sum(orders), places):
            if one != places[0]:
                left = times_lines(left, one, mark)
            else:
                right = times_lines(right, other, mark)
        left = times_lines(left, places[0], orders[0])
        right = times_lines(right, places[1], orders[1])
        rows = [(one, other, worth * by) for one, worth in enumerate(left) for other, by in enumerate(right)]
        base = Sheet(self.with_swapped(rows))
        factor = gap.over(sheet_value(base, orders, places))
        added = [(one, other, worth * factor) for one, other, worth in base.told_rows()]
        self.drawn = Sheet([*self.drawn.told_rows(), *added])

    def shape(self):
        """The polynomial as it is drawn."""
        return self.drawn


def times_lines(worths, place, times):
    """Coefficients times the argument less a place, some times."""
    product = worths
    for _ in range(times):
        product = times_line(product, place)
    return product
