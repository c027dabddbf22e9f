"""Witnesses at which forms are not 0.

The atoms of a form get values, those within ahead of the others, as if they had nothing to do
with one another. That is possible if the places of a function differ: polynomials can have any
values there. If a trial ends with 0, another one is made with other numbers.
"""

from unseenslopes.calculus import atoms_within
from unseenslopes.curves import Sheet
from unseenslopes.picks import Picks
from unseenslopes.ratios import Ratio
from unseenslopes.sheets import SheetSketch
from unseenslopes.sketches import CurveSketch
from unseenslopes.unseen import MOST_DEGREE
from unseenslopes.witnesses import Witness
from unseenslopes.worths import curve_about, form_worth

DEGREES = (1, 2, 3, 5, 8)
MOST_BITS = 200
MOST_BITS_OF_LINES = 20000


def witness_for(world, form):
    """A witness at which a form without blanks is not 0; None for the form 0."""
    return witness_beside(world, form, [])


def witness_beside(world, form, others):
    """As witness_for, at which the atoms of other forms have no long values, either."""
    if form.is_zero:
        return None
    attempt = 0
    while True:
        drawing = Drawing(world, form, others, attempt)
        draw_all(drawing)
        if form_worth(form, drawing.found).top != 0:
            return drawn_witness(drawing)
        attempt += 1


class Drawing:
    """Values of atoms, and the polynomials that have them.

    Early trials take values as simple polynomials have them; later ones choose each value of the form.
    """

    def __init__(self, world, form, others, attempt):
        is_early = attempt < len(DEGREES)
        self.world = world
        self.is_choosing = not is_early and attempt & 1 == 1
        self.degree = DEGREES[attempt] if is_early else attempt + 4
        self.most_bits = MOST_BITS_OF_LINES if self.degree == 1 else MOST_BITS
        self.picks = Picks(attempt, 1 << 2 * attempt if self.is_choosing else attempt + 2)
        self.asked = {atom.text: atom for atom in atoms_within(form)}
        self.atoms = {text: self.asked[text] for text in self.asked}
        for other in others:
            self.atoms.update({atom.text: atom for atom in atoms_within(other)})
        self.found = {}
        self.sketches = {}


def draw_all(drawing):
    """Gives values to all inputs and atoms."""
    for name in drawing.world.inputs():
        drawing.found[name] = Ratio(drawing.picks.step() if name in drawing.asked else 0)
    groups = groups_of(drawing.atoms)
    for atom in drawing.atoms.values():
        if atom.text not in drawing.found:
            if atom.given:
                draw_group(drawing, groups[group_key(atom)])
            else:
                drawing.found[atom.text] = Ratio(drawing.picks.step())


def group_key(atom):
    """The key of the atoms of a function that have the same forms within."""
    return (atom.name, *[part.text for part in atom.given])


def groups_of(atoms):
    """The lists of the atoms that have the same forms within, those with fewer slopes ahead."""
    groups = {}
    for atom in atoms.values():
        if atom.given:
            groups.setdefault(group_key(atom), []).append(atom)
    return {key: in_steps(groups[key]) for key in groups}


def in_steps(atoms):
    """The atoms by the sum of their slopes, and then by those of the second argument."""
    rows = {(sum(atom.orders), atom.orders[-1], atom.text): atom for atom in atoms}
    return [rows[row] for row in sorted(rows)]


def sketch_of(drawing, name):
    """The sketch of a function, which begins when it is first asked for."""
    if name not in drawing.sketches:
        fact = drawing.world.fact(name)
        if fact.arity == 2:
            sketch = SheetSketch(fact)
        else:
            lifts = [1 for atom in drawing.atoms.values() if atom.name == name and atom.orders == (-1,)]
            sketch = CurveSketch(fact, 1 if lifts else 0)
        if not drawing.is_choosing:
            sketch.begin(drawing.degree, drawing.picks)
        drawing.sketches[name] = sketch
    return drawing.sketches[name]


def draw_group(drawing, atoms):
    """Gives values to the atoms of a function that have the same forms within."""
    name = atoms[0].name
    sketch = sketch_of(drawing, name)
    centre = drawing.world.fact(name).centre
    places = tuple([form_worth(part, drawing.found) - centre for part in atoms[0].given])
    for atom in atoms:
        worth = sketch.worth_at(atom.orders, places)
        if sketch.is_loose(atom.orders, places) and is_to_change(drawing, atom, worth):
            wanted = Ratio(drawing.picks.step())
            sketch.bend(atom.orders, places, wanted - worth)
            worth = wanted
        drawing.found[atom.text] = worth
    sketch.keep(atoms[-1].orders, places)


def is_to_change(drawing, atom, worth):
    """Whether another value is to be chosen for an atom than the one that its polynomial has."""
    if drawing.is_choosing and atom.text in drawing.asked:
        return True
    return worth.top.bit_length() + worth.bottom.bit_length() > drawing.most_bits


def drawn_witness(drawing):
    """The witness that has the values of the atoms."""
    world = drawing.world
    numbers = {name: drawing.found[name] for name in world.inputs()}
    shapes = {name: drawn_shape(drawing, name) for name in world.functions()}
    return Witness(world, inputs=numbers, functions=shapes)


def drawn_shape(drawing, name):
    """The polynomial of a function."""
    fact = drawing.world.fact(name)
    if name in drawing.sketches:
        return drawing.sketches[name].shape()
    if fact.arity == 2:
        return Sheet([])
    texts = [f"{name}.{power}" for power in range(MOST_DEGREE + 1)]
    return curve_about([drawing.found.get(text, Ratio(0)) for text in texts], fact.centre)
