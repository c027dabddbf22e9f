"""Programs become slot code."""

from math import factorial

from unseenslopes.calculus import atoms_within
from unseenslopes.codes import Code
from unseenslopes.meaning import meaning
from unseenslopes.polys import ONE
from unseenslopes.ratios import Ratio
from unseenslopes.tape import Tape
from unseenslopes.witnesses import check_blanks
from unseenslopes.worths import coefficient_power, is_coefficient


def trace(program):
    """The code with one answer, whose form is the meaning of a program."""
    check_blanks(program)
    form = meaning(program)
    tape = Tape([])
    slots = {}
    for atom in atoms_within(form):
        slots[atom.text] = atom_slot(tape, program.world, atom, slots)
    answer = form_slot(tape, form, slots)
    return Code(program.world, tape.rows, [answer])


def atom_slot(tape, world, atom, slots):
    """The slot of an atom, from a dict of the slots of the atoms within."""
    given = [form_slot(tape, part, slots) for part in atom.given]
    if len(given) == 2:
        return tape.slot_of("two", atom.name, atom.orders, given[0], given[1])
    if len(given) == 1:
        return tape.slot_of("one", atom.name, atom.orders[0], given[0])
    if is_coefficient(atom):
        return coefficient_slot(tape, world, atom)
    return tape.slot_of("in", atom.name)


def coefficient_slot(tape, world, atom):
    """The slot of a coefficient of a function: a slope at the centre, divided by a factorial."""
    power = coefficient_power(atom)
    slope = tape.slot_of("one", atom.name, power, tape.number_slot(world.fact(atom.name).centre))
    return times_slot(tape, slope, Ratio(1, factorial(power)))


def form_slot(tape, form, slots):
    """The slot of a form, from a dict of the slots of its atoms."""
    table = form.poly.table
    if not table:
        return tape.number_slot(0)
    terms = [term_slot(tape, key, table[key], slots) for key in table]
    total = terms[0]
    for term in terms[1:]:
        total = tape.slot_of("add", total, term)
    return total


def term_slot(tape, key, worth, slots):
    """The slot of a product with its coefficient."""
    if key == ONE:
        return tape.number_slot(worth)
    factors = [power_slot(tape, slots[text], power) for text, power in key]
    product = factors[0]
    for factor in factors[1:]:
        product = tape.slot_of("mul", product, factor)
    return times_slot(tape, product, worth)


def times_slot(tape, slot, worth):
    """The slot of what a slot holds, times a Ratio."""
    if worth == 1:
        return slot
    return tape.slot_of("mul", tape.number_slot(worth), slot)


def power_slot(tape, slot, power):
    """The slot of a power, from 1 on, of what a slot holds."""
    if power == 1:
        return slot
    half = power_slot(tape, slot, power // 2)
    return tape.slot_of("mul", half, power_slot(tape, slot, power - power // 2))
