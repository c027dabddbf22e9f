"""Witnesses at which forms are not 0 ([10], [12])."""

import random
import unittest
from math import comb

import oracle
from bridge import fraction, oracle_witness, random_program, random_world
from helpers import Case
from unseenslopes.calculus import input_form, integral_of, slope_of, unseen_at
from unseenslopes.curves import Curve, Sheet
from unseenslopes.forms import Form, constant
from unseenslopes.meaning import meaning
from unseenslopes.places import Drawing, draw_all, drawn_witness, witness_for
from unseenslopes.polys import atom_poly
from unseenslopes.ratios import Ratio
from unseenslopes.unseen import Unseen, World
from unseenslopes.witnesses import Witness

HALF = Ratio(1, 2)
MIRRORS = [None, "even", "odd"]
CENTRES = [0, 1, Ratio(-3, 2)]


def world_of(f=None, g=None):
    return World(["x", "y"], {"f": f or Unseen(), "g": g or Unseen(2)})


def facts_of_one():
    """Facts of every kind of functions of one argument."""
    for degree in (None, 0, 1, 2, 3):
        for mirror in MIRRORS:
            for centre in CENTRES if mirror else [0]:
                yield Unseen(mirror=mirror, centre=centre, degree=degree)


class PlacesCase(Case):
    def check(self, world, form):
        """Asks for None exactly for the form 0, and for a Witness that shows any other form not to be 0."""
        witness = witness_for(world, form)
        if form.text == "0":
            self.assertIsNone(witness)
            return None
        self.assertIsInstance(witness, Witness, form.text)
        self.assertEqual(witness.world, world)
        self.assertNotEqual(witness.worth(form), 0, form.text)
        again = Witness(
            world, inputs={name: witness.number_of(name) for name in world.inputs()},
            functions={name: witness.shape_of(name) for name in world.functions()},
        )
        self.assertEqual(again, witness)
        source = random.Random(0)
        worth = oracle.FormText(form.text, oracle_witness(witness, source)).answer()
        self.assertEqual(worth, fraction(witness.worth(form)))
        return witness


class TestPlainForms(PlacesCase):
    def test_zero(self):
        world = world_of()
        x = input_form(world, "x")
        f = unseen_at(world, "f", [0], [x])
        for form in [constant(0), x - x, f * x - x * f, slope_of(world, f, "y"), f * 0]:
            self.assertIsNone(witness_for(world, form))
        self.assertIsNone(witness_for(form=constant(0), world=World([], {})))

    def test_numbers_and_inputs(self):
        world = world_of()
        x, y = input_form(world, "x"), input_form(world, "y")
        power = x
        for _ in range(6):
            power = power * (x - 2) * (x + 1) * (x + 2) * (x - 1)
        for form in [constant(1), constant(Ratio(-2, 7)), x, -y, x - y, x * y - x, x * x - 1, x - 1, y - 2, power, power * (x - y) * (y - 3)]:
            self.check(world, form)
        self.check(World([], {}), constant(3))

    def test_of_a_world_without_functions(self):
        world = World(["a", "b", "c", "d"], {})
        a, b, c, d = [input_form(world, name) for name in "abcd"]
        self.check(world, a * b - c * d)
        self.check(world, (a - b) * (b - c) * (c - d) * (a - d) * (a - c) * (b - d))


class TestFactsOfEveryKind(PlacesCase):
    def test_atoms_of_one_argument(self):
        for fact in facts_of_one():
            world = world_of(f=fact)
            x = input_form(world, "x")
            for place in [x, x * x - 3, constant(0), constant(fact.centre), constant(2)]:
                for order in (0, 1, 2, 5):
                    self.check(world, unseen_at(world, "f", [order], [place]))
                self.check(world, integral_of(world, fact.centre, place, "f"))
                self.check(world, integral_of(world, 7, place, "f"))

    def test_many_atoms_at_one_place(self):
        for fact in facts_of_one():
            world = world_of(f=fact)
            x = input_form(world, "x")
            for place in [x, constant(5), constant(fact.centre)]:
                total = constant(0)
                for order in range(6):
                    total = total * 3 + unseen_at(world, "f", [order], [place])
                self.check(world, total)
                self.check(world, total * integral_of(world, fact.centre, x + 1, "f") + total)

    def test_places_that_are_near(self):
        for fact in facts_of_one():
            world = world_of(f=fact)
            x, y = input_form(world, "x"), input_form(world, "y")
            f = [unseen_at(world, "f", [0], [place]) for place in (x, y, x + y, 2 * Ratio(1) * fact.centre - x, x + HALF)]
            for one in f:
                for other in f:
                    self.check(world, one - other)
                    self.check(world, one + other)
            self.check(world, f[0] * f[1] - f[2] * f[3])
            self.check(world, f[0] * f[0] * f[1] - f[1] * f[1] * f[0])

    def test_atoms_of_two_arguments(self):
        for swap in (None, "same", "minus"):
            world = world_of(g=Unseen(2, swap=swap))
            x, y = input_form(world, "x"), input_form(world, "y")

            def g(one, other, i=0, j=0):
                return unseen_at(world, "g", [i, j], [one, other])
            for one, other in [(x, y), (y, x), (x, x), (constant(0), constant(1)), (constant(2), constant(2)), (g(x, y), x)]:
                for i in range(3):
                    for j in range(3):
                        self.check(world, g(one, other, i, j))
                        self.check(world, g(one, other, i, j) - g(other, one, j, i))
                        self.check(world, g(one, other, i, j) + g(other, one, i, j) * g(x, x, 1, 0))
            self.check(world, g(x, y) * g(y, x) + g(x, x) * g(y, y))
            self.check(world, g(x, y) * g(1, 2) - g(x, 2) * g(1, y))
            self.check(world, g(g(x, y), g(y, x)) - g(g(x, x), g(y, y)))

    def test_functions_within_functions(self):
        for fact in facts_of_one():
            world = world_of(f=fact)
            x = input_form(world, "x")

            def f(place, order=0):
                return unseen_at(world, "f", [order], [place])
            self.check(world, f(f(x)) - f(x))
            self.check(world, f(f(x), 1) * f(x, 1) - f(f(x), 2))
            self.check(world, f(f(f(x))) - f(f(x)))
            self.check(world, f(unseen_at(world, "g", [1, 1], [f(x), f(x, 1)]), 1))


class TestHardForms(PlacesCase):
    def test_differences_that_simple_polynomials_do_not_show(self):
        """The n-th difference is 0 for all polynomials of a degree below n."""
        for fact in [Unseen(), Unseen(mirror="even", centre=1), Unseen(mirror="odd")]:
            world = world_of(f=fact)
            x = input_form(world, "x")
            for many in (1, 2, 4, 7, 12, 20):
                total = constant(0)
                for step in range(many + 1):
                    total = total + unseen_at(world, "f", [0], [x + step]) * (comb(many, step) * (-1) ** step)
                witness = self.check(world, total)
                self.assertGreaterEqual(witness.shape_of("f").degree_of, many)

    def test_differences_of_two_arguments(self):
        world = world_of(g=Unseen(2, swap="same"))
        x, y = input_form(world, "x"), input_form(world, "y")
        total = constant(0)
        for step in range(8):
            total = total + unseen_at(world, "g", [1, 0], [x + step, y]) * (comb(7, step) * (-1) ** step)
        self.check(world, total)

    def test_determinants(self):
        """f, its slopes and its integral at one place are independent."""
        world = world_of()
        x, y = input_form(world, "x"), input_form(world, "y")

        def f(place, order):
            return unseen_at(world, "f", [order], [place])
        self.check(world, f(x, 2) * f(y, 1) - f(x, 1) * f(y, 2))
        self.check(world, f(x, 0) * f(x, 2) - f(x, 1) * f(x, 1))
        self.check(world, f(x, 12) * f(y, 11) - f(y, 12) * f(x, 11))
        upper = integral_of(world, 0, x, "f")
        self.check(world, upper * f(constant(0), 0) - f(x, 0) * x * f(constant(0), 0))
        self.check(world, upper * f(x, 1) - f(x, 0) * f(x, 0))

    def test_towers(self):
        world = world_of()
        x, y = input_form(world, "x"), input_form(world, "y")
        tower = [x]
        for _ in range(400):
            tower.append(unseen_at(world, "f", [0], [tower[-1]]))
        witness = witness_for(world, tower[400] - tower[399])
        self.assertNotEqual(witness.worth(tower[400]), witness.worth(tower[399]))
        form = tower[30] + unseen_at(world, "f", [2], [y])
        self.assertNotEqual(witness_for(world, form - tower[29]).worth(form - tower[29]), 0)
        slope = slope_of(world, slope_of(world, tower[12], "x"), "x")
        self.assertNotEqual(witness_for(world, slope).worth(slope), 0)


class TestDrawings(PlacesCase):
    """Drawings themselves: the polynomials have the values that were chosen, in early and in late trials."""

    def test_chosen_values(self):
        source = random.Random(31)
        for _ in range(120):
            world = random_world(source)
            form = constant(0)
            for _ in range(source.choice([1, 2, 3])):
                form = form + meaning(random_program(world, source, depth=3)[1])
            if len(form.terms()) > 60:
                continue
            for attempt in (0, 2, 7, 9):
                witness = self.check_drawing(world, form, attempt)
                if attempt == 9 and not form.is_zero:
                    self.assertNotEqual(witness.worth(form), 0)

    def test_places_that_meet(self):
        """Different forms may have one value: then the values of a function there are the same."""
        for swap in (None, "same", "minus"):
            for mirror in MIRRORS:
                centre = HALF if mirror else 0
                world = World(["x", "y"], {"f": Unseen(mirror=mirror, centre=centre), "g": Unseen(2, swap=swap)})
                for attempt in (0, 3, 5, 7, 10):
                    self.check_drawing(world, self.form_of_places_that_meet(world, attempt), attempt)

    def form_of_places_that_meet(self, world, attempt):
        """The sum of atoms at places that have equal, mirrored or exchanged values in a trial."""
        x, y = input_form(world, "x"), input_form(world, "y")
        plain = Drawing(world, x + y, [], attempt)
        draw_all(plain)
        met = constant(plain.found["x"])
        centre = world.fact("f").centre
        form = x * y
        for place in (x, met, 2 * centre - x, x - met + centre, constant(centre), y - y + 3, x - met + 3):
            for order in (0, 1, 2, 3):
                form = form + unseen_at(world, "f", [order], [place]) * (order + 2)
            if attempt % 3:
                form = form + integral_of(world, centre, place, "f")
        for one, other in [(x, met), (met, x), (x, x), (met, met), (x, y), (y, met), (met, y), (y, x), (y, constant(0)), (x - met, y)]:
            for i, j in [(0, 0), (1, 0), (0, 1), (2, 0), (1, 1), (0, 2), (1, 2)]:
                form = form + unseen_at(world, "g", [i, j], [one, other]) * (i + 3 * j + 1)
        return form

    def check_drawing(self, world, form, attempt):
        drawing = Drawing(world, form, [], attempt)
        draw_all(drawing)
        witness = drawn_witness(drawing)
        for text, atom in drawing.atoms.items():
            self.assertEqual(witness.worth(Form(atom_poly(atom))), drawing.found[text], (world.text, attempt, text))
        return witness


class TestRandomForms(PlacesCase):
    def test_meanings_and_differences(self):
        source = random.Random(32)
        zeros = 0
        for _ in range(150):
            world = random_world(source)
            form = meaning(random_program(world, source)[1])
            other = meaning(random_program(world, source)[1])
            if len(form.terms()) + len(other.terms()) > 300:
                continue
            zeros += self.check(world, form) is None
            self.check(world, form - other)
            self.check(world, form - form * 1)
            self.check(world, slope_of(world, form, "x"))
        self.assertLess(zeros, 50)

    def test_unused_functions_are_0(self):
        world = world_of()
        witness = witness_for(world, input_form(world, "x"))
        self.assertEqual((witness.shape_of("f"), witness.shape_of("g")), (Curve([]), Sheet([])))
        self.assertEqual(witness.number_of("y"), 0)


if __name__ == "__main__":
    unittest.main()
