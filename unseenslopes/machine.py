"""The machine of tagged numbers, over forms or over Ratios.

A part of a tagged number has a key: a tuple of a set of tags, an integer with a bit for each tag,
and a power of the step by which an input is told. The machine itself has no such step; it serves
slopes of answers, for which a tag for each slope would make many more parts.
"""

from unseenslopes.ratios import Ratio

PLAIN = (0, 0)


def is_nothing(part):
    """Whether a part, a Ratio or a form, is 0."""
    if isinstance(part, Ratio):
        return part.top == 0
    return part.is_zero


class Tagged:
    """A number with a part for each of some keys; powers of the step above `most` are left out."""

    def __init__(self, parts, most=0):
        self.parts = {key: parts[key] for key in parts if not is_nothing(parts[key])}
        self.most = most

    def __add__(self, other):
        parts = {key: self.parts[key] for key in self.parts}
        for key in other.parts:
            parts[key] = parts[key] + other.parts[key] if key in parts else other.parts[key]
        return Tagged(parts, self.most)

    def __neg__(self):
        return Tagged({key: -self.parts[key] for key in self.parts}, self.most)

    def __sub__(self, other):
        return self + -other

    def __mul__(self, other):
        parts = {}
        for tags, power in self.parts:
            for further, raised in other.parts:
                if tags & further == 0 and power + raised <= self.most:
                    key = (tags | further, power + raised)
                    part = self.parts[tags, power] * other.parts[further, raised]
                    parts[key] = parts[key] + part if key in parts else part
        return Tagged(parts, self.most)


def scaled_parts(number, factor):
    """A tagged number times a Ratio, or a number like its parts."""
    return Tagged({key: number.parts[key] * factor for key in number.parts}, number.most)


class Machine:
    """The ground of tagged numbers whose parts are numbers of a base ground.

    With a `name`, this input has a step behind its number, and its powers up to `most` are told.
    """

    def __init__(self, base, naming, is_renewed, name=None, most=0):
        self.world = base.world
        self.base = base
        self.naming = naming
        self.is_renewed = is_renewed
        self.name = name
        self.most = most
        self.made = 0
        self.depth = 0

    def plain(self, part):
        """The number with a part without tags."""
        return Tagged({PLAIN: part}, self.most)

    def plain_part(self, number):
        """The part without tags of a number."""
        return self.step_part(number, 0)

    def step_part(self, number, power):
        """The part without tags of a number that belongs to a power of the step."""
        return number.parts[0, power] if (0, power) in number.parts else self.base.number(Ratio(0))

    def number(self, ratio):
        """The number of a Ratio."""
        return self.plain(self.base.number(ratio))

    def blank(self, index):
        """The number of a blank."""
        return self.plain(self.base.blank(index))

    def input_number(self, name):
        """The number of an input."""
        number = self.plain(self.base.input_number(name))
        if name != self.name or self.most == 0:
            return number
        return number + Tagged({(0, 1): self.base.number(Ratio(1))}, self.most)

    def value_of(self, name, orders, given):
        """An unseen function with slopes at a tuple of numbers, by the powers of their tagged parts."""
        places = tuple([self.plain_part(number) for number in given])
        total = self.plain(self.base.value_of(name, orders, places))
        for steps, factor in self.steps_of(given)[1:]:
            raised = tuple([order + step for order, step in zip(orders, steps)])
            total = total + scaled_parts(factor, self.base.value_of(name, raised, places))
        return total

    def steps_of(self, given):
        """The tuples of numbers of slopes, from zeros on, with the powers of the tagged parts that belong to them."""
        steps = [((), self.number(Ratio(1)))]
        for number in given:
            powers = self.powers_of(number)
            longer = []
            for orders, factor in steps:
                for power, worth in enumerate(powers):
                    joined = factor * worth
                    if joined.parts:
                        longer.append(((*orders, power), joined))
            steps = longer
        return steps

    def powers_of(self, number):
        """The powers of the tagged parts of a number, as long as there are any, each divided by its factorial."""
        rest = Tagged({key: number.parts[key] for key in number.parts if key != PLAIN}, self.most)
        powers = []
        worth = self.number(Ratio(1))
        while worth.parts:
            powers.append(worth)
            worth = scaled_parts(worth * rest, Ratio(1, len(powers)))
        return powers

    def begin_slope(self, site):
        """The tag, as a set, of a slope that is taken by the word at a place."""
        tags = {"one": 0, "site": site, "depth": self.depth, "new": self.made}
        self.depth += 1
        self.made += 1
        return 1 << tags[self.naming]

    def moved(self, number, tag):
        """A number plus a tag."""
        return number + Tagged({(tag, 0): self.base.number(Ratio(1))}, self.most)

    def end_slope(self):
        """Ends the application by which a slope is taken."""
        self.depth -= 1

    def stripped(self, number, tag):
        """The parts with a tag, under their sets without it."""
        parts = {}
        for tags, power in number.parts:
            if tags & tag:
                parts[tags - tag, power] = number.parts[tags, power]
        return Tagged(parts, self.most)
