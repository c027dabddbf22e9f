"""Polynomials that are drawn place by place: a value, with any number of slopes, can be chosen as
long as it is loose, which means that no choice was made for it before.

The mark of a place is the number of slopes below which its values are kept: whatever is added
later is 0 there, that often. Of a group of choices for one place, those with fewer slopes in all
come first, and all are made before the place is marked.
"""

from unseenslopes.curves import Curve
from unseenslopes.normal import is_power_of
from unseenslopes.ratios import Ratio
from unseenslopes.worths import added, curve_about, times_line

CENTRE = "0"


class CurveSketch:
    """The polynomial of a function of one argument without a degree; places are told less its centre.

    `lift` is 1 if integrals are asked for, too; then the integral from the centre on is drawn.
    `parity` is 0 or 1 if what is drawn has only even or only odd powers, and None otherwise.
    """

    def __init__(self, fact, lift):
        self.facts = fact
        self.lift = lift
        self.parity = None if fact.mirror is None else ((1 if fact.mirror == "odd" else 0) + lift) & 1
        self.drawn = Curve([])
        self.marks = {}
        self.factored = [Ratio(1)]
        self.waiting = []
        if lift == 1:
            self.keep((-1,), (Ratio(0),))

    def begin(self, degree, picks):
        """Begins with a polynomial of a degree."""
        curve = Curve([picks.step() if is_power_of(self.facts, power) else 0 for power in range(degree + 1)])
        self.drawn = curve.integral_curve() if self.lift == 1 else curve

    def key_of(self, place):
        """The key of a place; mirrored places have one key."""
        return str(place) if self.parity is None else str(abs(place))

    def mark_of(self, place):
        """The mark of a place."""
        return self.marks.get(self.key_of(place), 0)

    def worth_at(self, orders, places):
        """The value with slopes at a place."""
        slope = self.drawn.slope_curve(orders[0] + self.lift)
        return slope(places[0])

    def is_loose(self, orders, places):
        """Whether the value with slopes at a place can be chosen."""
        level = orders[0] + self.lift
        if self.parity is not None and places[0].top == 0 and (level & 1) != self.parity:
            return False
        return level >= self.mark_of(places[0])

    def keep(self, orders, places):
        """Marks a place, so that its values with these and with fewer slopes are kept."""
        level = orders[0] + self.lift + 1
        mark = self.mark_of(places[0])
        if level > mark:
            self.marks[self.key_of(places[0])] = level
            if self.parity is None or places[0].top != 0:
                self.waiting.extend([places[0] for _ in range(level - mark)])

    def times_factor(self, worths, place):
        """Coefficients times the simplest polynomial that is 0 at a place, and at the mirrored one."""
        product = times_line(worths, place)
        return product if self.parity is None else times_line(product, -place)

    def base_at(self, level, place):
        """Coefficients by which nothing changes that is kept, nor fewer slopes at the place."""
        for waiting in self.waiting:
            self.factored = self.times_factor(self.factored, waiting)
        self.waiting = []
        base = self.factored
        if self.parity is None or place.top != 0:
            for _ in range(level - self.mark_of(place)):
                base = self.times_factor(base, place)
        if self.parity is None:
            return base
        low = self.marks.get(CENTRE, 0)
        power = level if place.top == 0 else low + ((low + self.parity) & 1)
        return [Ratio(0) for _ in range(power)] + base

    def bend(self, orders, places, gap):
        """Adds something to a value that is loose."""
        level = orders[0] + self.lift
        base = self.base_at(level, places[0])
        slope = Curve(base).slope_curve(level)
        factor = gap.over(slope(places[0]))
        self.drawn = Curve(added(self.drawn.worths(), [worth * factor for worth in base]))

    def shape(self):
        """The polynomial as it is drawn."""
        curve = self.drawn.slope_curve(self.lift)
        return curve_about(curve.worths(), self.facts.centre)
