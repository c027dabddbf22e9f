"""What the answers of programs hang on, and programs in which functions are exchanged."""

from unseenslopes.calculus import atoms_within
from unseenslopes.errors import UnknownName
from unseenslopes.meaning import meaning
from unseenslopes.verdicts import compare
from unseenslopes.witnesses import check_blanks


def atoms_of(program, name):
    """The atoms of an input or of a function in the meaning of a program and in all forms within."""
    return [atom for atom in atoms_within(meaning(program)) if atom.name == name]


def hangs_on(program, name):
    """Whether the answer of a program hangs on an input or an unseen function."""
    if name not in program.world:
        raise UnknownName(name)
    check_blanks(program)
    return len(atoms_of(program, name)) > 0


def reads(program, name):
    """The ascending list of the texts of the atoms of an unseen function that a program reads."""
    program.world.fact(name)
    check_blanks(program)
    return sorted([atom.text for atom in atoms_of(program, name)])


def is_additive(program, name):
    """Whether the answer for a sum of two functions in the place of one is the sum of the answers."""
    program.world.fact(name)
    check_blanks(program)
    poly = meaning(program).poly
    if any([has_within(atom, name) for atom in poly.atoms.values()]):
        return False
    return all([powers_of_name(poly, key, name) == [1] for key in poly.table])


def has_within(atom, name):
    """Whether a function stands in the forms within an atom."""
    return any([inner.name == name for part in atom.given for inner in atoms_within(part)])


def powers_of_name(poly, key, name):
    """The powers of the atoms of a function in a product of a Poly."""
    return [power for text, power in key if poly.atoms[text].name == name]


def can_exchange(program, one, other):
    """The verdict on a program and the one in which two unseen functions are exchanged."""
    return compare(program, program.renamed({one: other, other: one}))
