"""What the numbers of a program are while it runs: forms, or Ratios at a witness.

A ground makes numbers for those that run a program. The one that is run by itself also takes
slopes: `begin_slope` tells a mark, `moved` is a number plus the step that bears the mark,
`end_slope` ends what `begin_slope` began, and `stripped` is the slope by that step. With
`is_renewed`, a slope waits until all arguments of its function are given.
"""

from unseenslopes.calculus import input_form, put_for, slope_of
from unseenslopes.forms import constant
from unseenslopes.normal import plain_form, unseen_form


class FormGround:
    """Numbers are forms; the mark of a slope is the name of an input that nothing else uses."""

    def __init__(self, world):
        self.world = world
        self.is_renewed = True
        self.made = 0

    def number(self, ratio):
        """The form of a Ratio."""
        return constant(ratio)

    def blank(self, index):
        """The form of a blank."""
        return plain_form(f"?{index}", f"?{index}")

    def input_number(self, name):
        """The form of an input."""
        return input_form(self.world, name)

    def value_of(self, name, orders, given):
        """The normal form of an unseen function with slopes at a tuple of forms."""
        return unseen_form(self.world, name, orders, given)

    def begin_slope(self, _):
        """A new mark: no name of a program has a digit."""
        self.made += 1
        return f"z{self.made}"

    def moved(self, worth, mark):
        """A form plus the input that is the mark."""
        return worth + plain_form(mark, mark)

    def end_slope(self):
        """Nothing is to be ended: each mark is used once."""

    def stripped(self, worth, mark):
        """The slope of a form by the mark, with 0 put for it."""
        return put_for(self.world, slope_of(self.world, worth, mark), mark, 0)


class RatioGround:
    """Numbers are Ratios, those of a witness and of its polynomials."""

    def __init__(self, witness):
        self.world = witness.world
        self.witness = witness

    def number(self, ratio):
        """A Ratio itself."""
        return ratio

    def input_number(self, name):
        """The number of an input."""
        return self.witness.number_of(name)

    def value_of(self, name, orders, given):
        """The value of a polynomial with slopes at a tuple of Ratios."""
        return self.witness.value_of(name, orders, given)
