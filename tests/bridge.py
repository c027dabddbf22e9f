"""Witnesses of the package and those of the independent reckoning, made of one another; random programs in worlds."""

from fractions import Fraction

import oracle
from slopy import SlopeMaker
from unseenslopes.curves import Curve, Sheet
from unseenslopes.errors import TooLarge
from unseenslopes.programs import Program
from unseenslopes.ratios import Ratio
from unseenslopes.unseen import Unseen, World
from unseenslopes.witnesses import Witness


def ratio(fraction):
    return Ratio(fraction.numerator, fraction.denominator)


def fraction(number):
    return Fraction(number.top, number.bottom)


def package_witness(world, found):
    """The Witness with the numbers and polynomials of one of the independent reckoning."""
    functions = {}
    for name, shape in found.shapes.items():
        if world.fact(name).arity == 1:
            functions[name] = Curve([ratio(Fraction(worth)) for worth in shape.worths])
        else:
            functions[name] = Sheet([(p, q, ratio(Fraction(worth))) for (p, q), worth in shape.worths.items()])
    return Witness(world, inputs={name: ratio(found.numbers[name]) for name in world.inputs()}, functions=functions)


def oracle_witness(witness, source):
    """A witness of the independent reckoning with the numbers and polynomials of a Witness; its blanks are drawn."""
    world = witness.world
    found = oracle.Witness(world, source)
    found.numbers = {name: fraction(witness.number_of(name)) for name in world.inputs()}
    for name in world.functions():
        shape = witness.shape_of(name)
        if world.fact(name).arity == 2:
            found.shapes[name] = oracle.Poly2({(p, q): fraction(worth) for p, q, worth in shape.told_rows()})
        else:
            found.shapes[name] = oracle.Poly1([fraction(worth) for worth in shape.worths()])
            found.coefficients[name] = about_centre(found.shapes[name], found.centres[name])
    return found


def about_centre(shape, centre):
    """The coefficients of a polynomial by powers of the argument less the centre, by division again and again."""
    worths = list(shape.worths)
    found = []
    while worths:
        quotient = []
        rest = Fraction(0)
        for worth in reversed(worths):
            rest = rest * centre + worth
            quotient.append(rest)
        found.append(quotient.pop())
        worths = quotient[::-1]
    return found + [Fraction(0)] * 4


def random_fact(source):
    """Facts of a function of one argument."""
    mirror = source.choice([None, "even", "odd"])
    centre = source.choice([0, 0, 1, Ratio(-1, 2)]) if mirror else 0
    return Unseen(mirror=mirror, centre=centre, degree=source.choice([None, None, None, None, 0, 1, 2, 3]))


def random_world(source, inputs=("x", "y")):
    """A world with facts of every kind."""
    swap = source.choice([None, "same", "minus"])
    return World(list(inputs), {"f": random_fact(source), "h": random_fact(source), "g": Unseen(2, swap=swap)})


class Made:
    """A random program of the package, and its answers by the independent reckoning."""

    def __init__(self, lets, last):
        self.lets = lets
        self.last = last
        self.text = "".join(f"let {name}={made.text};" for name, made in lets) + last.text

    def run(self, witness):
        """The answer at a witness of the independent reckoning, a tagged number."""
        values = {}
        for name, made in self.lets:
            values[name] = made.run(witness, dict(values))
        return self.last.run(witness, values)


def random_program(world, source, maker=None, depth=4, kinds=("", "x", "x", "xx", "@", "x@", "@x")):
    """A pair of a Made and its Program; texts that are too long or too deep are thrown away."""
    while True:
        made = random_made(world, source, maker or source.choice([oracle.Maker, SlopeMaker]), depth, kinds)
        try:
            return made, Program(world, made.text)
        except TooLarge:
            pass


def program_with(world, source, making, lets):
    """A pair of a Made with given lets, tuples of a name, an expression and a kind, and its Program."""
    scope = {name: kind for name, _, kind in lets}
    while True:
        made = Made([(name, part) for name, part, _ in lets], making.make("", scope, source.randint(2, 4)))
        try:
            return made, Program(world, made.text)
        except TooLarge:
            pass


def random_made(world, source, maker, depth, kinds):
    making = maker(world, source)
    scope, lets = {}, []
    for _ in range(source.choice([0, 0, 1, 2])):
        name = making.fresh()
        kind = source.choice(kinds)
        lets.append((name, making.make(kind, scope, source.randint(1, 3))))
        scope[name] = kind
    return Made(lets, making.make("", scope, source.randint(2, depth)))
