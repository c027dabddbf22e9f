"""All numbers for the blanks of two programs that make them alike."""

from unseenslopes.conditions import blanks_up_to, conditions_of, direction_of, point_of, solved
from unseenslopes.near import are_alike, check_near, check_worlds
from unseenslopes.ratios import Ratio, is_integer, is_number


def moved_by(numbers, direction, multiple):
    """Numbers plus a multiple of a direction."""
    steps = [step * multiple for step in direction[:len(numbers)]]
    return [number + step for number, step in zip(numbers, steps)] + numbers[len(steps):]


class Filling:
    """All solutions: a point, and a direction for each free blank."""

    KIND = "filled"

    def __init__(self, one, other, point, directions, *, name=None, power=None):
        self.one = one
        self.other = other
        self.name = name
        self.power = power
        self._point = list(point)
        self._directions = [list(direction) for direction in directions]

    def point(self):
        """The list of the numbers of the solution in which all free blanks are 0."""
        return list(self._point)

    def directions(self):
        """The list of the lists of numbers that may be added to a solution, as often as one likes."""
        return [list(direction) for direction in self._directions]

    def programs(self, *multiples):
        """The tuple of the two programs, filled with the point plus multiples of the first directions."""
        numbers = list(self._point)
        for multiple, direction in zip(multiples, self._directions):
            numbers = moved_by(numbers, direction, multiple)
        return (self.one.filled(numbers), self.other.filled(numbers))

    def holds(self):
        """Whether the programs are alike at the point, and with each one direction added once."""
        points = [self._point, *[moved_by(self._point, direction, 1) for direction in self._directions]]
        return all([self.holds_at(point) for point in points])

    def holds_at(self, numbers):
        """Whether the programs are alike with numbers for their blanks."""
        return are_alike(self.one.filled(numbers), self.other.filled(numbers), self.name, self.power)

    def __repr__(self):
        return f"Filling({len(self._point)} blanks, {len(self._directions)} directions)"


class NoFilling:
    """Weights by which the conditions for the blanks add up to 0 = 1."""

    KIND = "barred"

    def __init__(self, one, other, weights, *, name=None, power=None):
        self.one = one
        self.other = other
        self.name = name
        self.power = power
        self._weights = list(weights)

    def weights(self):
        """The list of the rows: the order of the slope, the text of the product, and the weight."""
        return list(self._weights)

    def holds(self):
        """Whether the rows name conditions that add up to 0 for each blank and to 1 for the number."""
        if self.one.world != self.other.world:
            return False
        conditions = conditions_of(self.one, self.other, self.name, self.power)
        many = blanks_up_to(self.one, self.other)
        total = [Ratio(0) for _ in range(many + 1)]
        for row in self._weights:
            if not is_weight(row, conditions):
                return False
            total = moved_by(total, conditions[row[0], row[1]], row[2])
        return total == [0 for _ in range(many)] + [1]

    def __repr__(self):
        return f"NoFilling({len(self._weights)} weights)"


def is_weight(row, conditions):
    """Whether a row names a condition and has a number as its weight."""
    order, text, weight = row
    if not is_integer(order) or not isinstance(text, str) or not is_number(weight):
        return False
    return (order, text) in conditions


def fill(one, other, *, name=None, power=None):
    """All solutions for the blanks, or the weights that show that there is none."""
    check_worlds(one, other)
    if name is not None or power is not None:
        check_near(one.world, name, power)
    many = blanks_up_to(one, other)
    pivots = solved(conditions_of(one, other, name, power), many)
    if many in pivots:
        weights = pivots[many].shares
        rows = [(order, text, weights[order, text]) for order, text in sorted(weights)]
        return NoFilling(one, other, rows, name=name, power=power)
    directions = [direction_of(pivots, free, many) for free in range(many) if free not in pivots]
    return Filling(one, other, point_of(pivots, many), directions, name=name, power=power)
