"""Witnesses: numbers for the inputs and polynomials for the unseen functions of a world."""

from math import factorial

from unseenslopes.calculus import atoms_within
from unseenslopes.curves import Curve, Sheet
from unseenslopes.errors import InvalidBlank, InvalidNumber, InvalidWitness, UnknownName, UnlikeWorlds
from unseenslopes.grounds import RatioGround
from unseenslopes.machine import Machine
from unseenslopes.normal import INTEGRAL, is_power_of
from unseenslopes.ratios import Ratio, is_integer, is_number, ratio_of
from unseenslopes.running import run_tree
from unseenslopes.worths import coefficient_power, form_worth, is_coefficient, sheet_value, worths_about

MOST_TIMES = 6


def keeps_facts(fact, shape):
    """Whether any value is a polynomial of the arity that keeps the facts."""
    if fact.arity == 1:
        return isinstance(shape, Curve) and curve_keeps(fact, shape)
    return isinstance(shape, Sheet) and sheet_keeps(fact, shape)


def curve_keeps(fact, curve):
    """Whether a polynomial of one argument keeps the facts."""
    if fact.degree is not None and curve.degree_of > fact.degree:
        return False
    worths = worths_about(curve, fact.centre)
    return all([worth.top == 0 or is_power_of(fact, power) for power, worth in enumerate(worths)])


def sheet_keeps(fact, sheet):
    """Whether a polynomial of two arguments keeps the facts."""
    if fact.swap is None:
        return True
    sign = -1 if fact.swap == "minus" else 1
    return sheet == Sheet([(other, one, worth * sign) for one, other, worth in sheet.told_rows()])


def check_witness(world, numbers, shapes):
    """Raises the first fault of the dicts that are to be a witness."""
    for name in sorted(numbers):
        if name not in world.inputs():
            raise UnknownName(name)
    for name in sorted(shapes):
        if name not in world.functions():
            raise UnknownName(name)
    for name in world.inputs():
        if not is_number(numbers.get(name)):
            raise InvalidWitness(name)
    for name in world.functions():
        if not keeps_facts(world.fact(name), shapes.get(name)):
            raise InvalidWitness(name)


def told_text(rows):
    """The text of names with their numbers and polynomials."""
    return ", ".join([f"{name} = {text}" for name, text in rows])


class Witness:
    """Numbers and polynomials that keep the facts of a world; it does not change."""

    def __init__(self, world, *, inputs, functions):
        check_witness(world, inputs, functions)
        self.world = world
        self._numbers = {name: ratio_of(inputs[name]) for name in world.inputs()}
        self._shapes = {name: functions[name] for name in world.functions()}

    def number_of(self, name):
        """The Ratio of an input."""
        if not isinstance(name, str) or name not in self._numbers:
            raise UnknownName(name)
        return self._numbers[name]

    def shape_of(self, name):
        """The polynomial of an unseen function."""
        if not isinstance(name, str) or name not in self._shapes:
            raise UnknownName(name)
        return self._shapes[name]

    def value_of(self, name, orders, given):
        """The value of a polynomial with slopes, -1 for the integral from the centre on, at Ratios."""
        shape = self._shapes[name]
        if len(orders) == 2:
            return sheet_value(shape, orders, given)
        if orders[0] == INTEGRAL:
            curve = shape.integral_curve(self.world.fact(name).centre)
        else:
            curve = shape.slope_curve(orders[0])
        return curve(given[0])

    def worth(self, form):
        """The value of a form without blanks."""
        worths = {}
        for atom in atoms_within(form):
            worths[atom.text] = self.atom_worth(atom, worths)
        return form_worth(form, worths)

    def atom_worth(self, atom, worths):
        """The value of an atom, from a dict of the values of those within."""
        if atom.given:
            return self.value_of(atom.name, atom.orders, [form_worth(part, worths) for part in atom.given])
        if not is_coefficient(atom):
            return self._numbers[atom.name]
        found = worths_about(self._shapes[atom.name], self.world.fact(atom.name).centre)
        power = coefficient_power(atom)
        return found[power] if power < len(found) else Ratio(0)

    def answer(self, program):
        """The answer of a program, a Ratio."""
        return slope_at(self, program, None, 0)

    def slope_answer(self, program, name, times=1):
        """The slope of the answer of a program by an input, taken some times."""
        if name not in self.world.inputs():
            raise UnknownName(name)
        if not is_integer(times) or not 0 <= times <= MOST_TIMES:
            raise InvalidNumber(times)
        return slope_at(self, program, name, times)

    def told(self):
        """The ascending list of the tuples of a name and the text of its number or polynomial."""
        told = {**self._numbers, **self._shapes}
        return [(name, str(told[name])) for name in sorted(told)]

    def __eq__(self, other):
        return isinstance(other, Witness) and self.world == other.world and self.told() == other.told()

    def __repr__(self):
        return f"Witness({told_text(self.told())})"


def check_blanks(program):
    """Raises InvalidBlank for the first blank of a program."""
    at = program.text.find("?")
    if at >= 0:
        raise InvalidBlank(at)


def slope_at(witness, program, name, times):
    """The slope of an answer by an input, taken any number of times; the answer itself for 0 times."""
    if program.world != witness.world:
        raise UnlikeWorlds()
    check_blanks(program)
    machine = Machine(RatioGround(witness), "new", True, name, times)
    number = run_tree(machine, program.tree)
    return machine.step_part(number, times) * factorial(times)
