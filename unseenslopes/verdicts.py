"""Verdicts on two programs: whether they are alike, also up to a power of an input."""

from unseenslopes.meaning import meaning
from unseenslopes.near import are_alike, check_near, check_pair, first_unlike
from unseenslopes.places import witness_beside
from unseenslopes.ratios import is_integer
from unseenslopes.witnesses import Witness, slope_at


def near_text(name, power):
    """The words for a power of an input; none without a name."""
    return "" if name is None else f" up to {name}^{power}"


class Verdict:
    """What is said of two programs; the base of the others."""

    KIND = "open"

    def __init__(self, one, other, name=None, power=None):
        self.one = one
        self.other = other
        self.name = name
        self.power = power

    def holds(self):
        """Whether the verdict is right; an open one says nothing."""
        return False

    def __bool__(self):
        return bool(self.KIND == "alike")

    def __repr__(self):
        return f"Verdict({self.KIND}{near_text(self.name, self.power)})"


class Alike(Verdict):
    """Two programs that are alike."""

    KIND = "alike"

    def holds(self):
        """Whether the meanings are equal, or their slopes below the power."""
        return are_alike(self.one, self.other, self.name, self.power)


class Apart(Verdict):
    """Two programs whose answers, or their slopes of an order by the name, differ at a witness."""

    KIND = "apart"

    def __init__(self, one, other, witness, name=None, power=None, order=0):
        Verdict.__init__(self, one, other, name, power)
        self.witness = witness
        self.order = order

    def answers(self):
        """The tuple of the two answers at the witness, or of their slopes of the order by the name."""
        order = 0 if self.name is None else self.order
        one = slope_at(self.witness, self.one, self.name, order)
        return (one, slope_at(self.witness, self.other, self.name, order))

    def holds(self):
        """Whether the witness is one at which the answers, or their slopes of the order, differ."""
        if not isinstance(self.witness, Witness) or self.one.world != self.other.world:
            return False
        if self.witness.world != self.one.world or not self.is_near():
            return False
        one, other = self.answers()
        return one != other

    def is_near(self):
        """Whether the order is one below the power, and the number of the name is 0; or there is no name."""
        if self.name is None:
            return True
        if not is_integer(self.order) or not 0 <= self.order < self.power:
            return False
        return self.witness.number_of(self.name) == 0


def compare(one, other):
    """The verdict on two programs."""
    check_pair(one, other)
    return verdict_of(one, other, None, None)


def compare_near(one, other, *, name, power):
    """The verdict on two programs up to a power of an input."""
    check_pair(one, other)
    check_near(one.world, name, power)
    return verdict_of(one, other, name, power)


def verdict_of(one, other, name, power):
    """The verdict on two programs, up to a power if there is a name."""
    found = first_unlike(one, other, name, power)
    if found is None:
        return Alike(one, other, name, power)
    order, form = found
    witness = witness_beside(one.world, form, [meaning(one), meaning(other)])
    return Apart(one, other, witness, name, power, order)


def order_of(one, other, *, name, most=6):
    """The greatest power of an input, up to a most one, up to which two programs are alike."""
    check_pair(one, other)
    check_near(one.world, name, most)
    found = first_unlike(one, other, name, most)
    return most if found is None else found[0]
