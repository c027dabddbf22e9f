"""The replacements by the facts, and the normal form ([6])."""

import random
import unittest

from helpers import Case
from oracle import FormText, Witness
from unseenslopes.calculus import input_form, integral_of, put_for, slope_of, unseen_at
from unseenslopes.forms import constant
from unseenslopes.ratios import Ratio
from unseenslopes.unseen import Unseen, World

HALF = Ratio(1, 2)


def world(**facts):
    return World(["x", "y"], facts)


def texts(fact, places, order=0):
    """The texts of a function of one argument at some places."""
    made = world(f=fact)
    return [unseen_at(made, "f", [order], [place]).text for place in places]


FREE = world()
X = input_form(FREE, "x")
Y = input_form(FREE, "y")


class TestIntegrals(Case):
    def test_integral_from_the_centre_is_0_at_the_centre(self):
        for fact, centre in [
            (Unseen(), 0), (Unseen(mirror="even"), 0), (Unseen(mirror="odd", centre=HALF), HALF),
            (Unseen(mirror="even", centre=-2), -2), (Unseen(degree=3), 0), (Unseen(mirror="odd", centre=2, degree=3), 2),
        ]:
            made = world(f=fact)
            self.assertEqual(integral_of(made, centre, centre, "f").text, "0")
            upper = integral_of(made, centre, X, "f")
            if fact.degree is None:
                self.assertEqual(len(upper.terms()), 1)
                self.assertIn("f[-1](", upper.text)
            self.assertEqual(put_for(made, upper, "x", centre).text, "0")

    def test_joined_and_exchanged(self):
        for fact in [Unseen(), Unseen(mirror="odd", centre=1), Unseen(degree=2), Unseen(mirror="even", degree=3)]:
            made = world(f=fact)
            one, other = integral_of(made, X, Y, "f"), integral_of(made, Y, 3, "f")
            self.assertEqual(one + other, integral_of(made, X, 3, "f"))
            self.assertEqual(one, -integral_of(made, Y, X, "f"))
            self.assertTrue(integral_of(made, X * Y, Y * X, "f").is_zero)

    def test_slope_of_an_integral(self):
        for fact in [Unseen(), Unseen(mirror="odd", centre=1), Unseen(mirror="even"), Unseen(degree=2)]:
            made = world(f=fact)
            at_x = unseen_at(made, "f", [0], [X])
            self.assertEqual(slope_of(made, integral_of(made, 5, X, "f"), "x"), at_x)
            self.assertEqual(slope_of(made, integral_of(made, X, 5, "f"), "x"), -at_x)
            inner = integral_of(made, X, X * Y, "f")
            self.assertEqual(slope_of(made, inner, "x"), unseen_at(made, "f", [0], [X * Y]) * Y - at_x)

    def test_mirrored_ends(self):
        for centre in [0, 1, Ratio(-3, 2)]:
            mirrored = 2 * constant(centre) - X
            odd = world(f=Unseen(mirror="odd", centre=centre))
            self.assertTrue(integral_of(odd, mirrored, X, "f").is_zero)
            even = world(f=Unseen(mirror="even", centre=centre))
            self.assertEqual(integral_of(even, mirrored, X, "f"), 2 * integral_of(even, centre, X, "f"))
            self.assertFalse(integral_of(even, mirrored, X, "f").is_zero)
            free = world(f=Unseen())
            self.assertFalse(integral_of(free, mirrored, X, "f").is_zero)

    def test_integral_texts(self):
        odd = world(f=Unseen(mirror="odd"))
        self.assertEqual(integral_of(odd, 0, X, "f").text, "f[-1](-x)")
        even = world(f=Unseen(mirror="even"))
        self.assertEqual(integral_of(even, 0, X, "f").text, "-f[-1](-x)")
        self.assertEqual(integral_of(world(f=Unseen()), 0, X, "f").text, "f[-1](x)")
        self.assertEqual(integral_of(world(f=Unseen(mirror="even", centre=1)), 0, 2, "f").text, "-2*f[-1](0)")
        self.assertEqual(integral_of(world(f=Unseen(mirror="odd", centre=1)), 0, 2, "f").text, "0")


class TestMirrors(Case):
    def test_even_functions(self):
        even = Unseen(mirror="even")
        self.assertEqual(texts(even, [X, -X, X - Y, Y - X, 0, 1, -1, X * X, -X * X]),
                         ["f(-x)", "f(-x)", "f(-x + y)", "f(-x + y)", "f(0)", "f(-1)", "f(-1)", "f(-x^2)", "f(-x^2)"])
        self.assertEqual(texts(even, [X, -X, 0, 1, -1], 1), ["-f[1](-x)", "f[1](-x)", "0", "-f[1](-1)", "f[1](-1)"])
        self.assertEqual(texts(even, [X, -X, 0], 2), ["f[2](-x)", "f[2](-x)", "f[2](0)"])

    def test_odd_functions(self):
        odd = Unseen(mirror="odd")
        self.assertEqual(texts(odd, [X, -X, 0, 1, -1, X - X]), ["-f(-x)", "f(-x)", "0", "-f(-1)", "f(-1)", "0"])
        self.assertEqual(texts(odd, [X, -X, 0], 1), ["f[1](-x)", "f[1](-x)", "f[1](0)"])
        self.assertEqual(texts(odd, [X, -X, 0], 12), ["-f[12](-x)", "f[12](-x)", "0"])

    def test_centres_that_are_not_0(self):
        even = Unseen(mirror="even", centre=1)
        self.assertEqual(texts(even, [X, 2 - X, 1, 0, 2, 3]), ["f(2 - x)", "f(2 - x)", "f(1)", "f(0)", "f(0)", "f(-1)"])
        self.assertEqual(texts(even, [X, 2 - X, 1, 2], 1), ["-f[1](2 - x)", "f[1](2 - x)", "0", "-f[1](0)"])
        odd = Unseen(mirror="odd", centre=HALF)
        self.assertEqual(texts(odd, [X, 1 - X, HALF, 1, 0]), ["-f(1 - x)", "f(1 - x)", "0", "-f(0)", "f(0)"])
        self.assertEqual(texts(odd, [X, 1 - X, HALF], 1), ["f[1](1 - x)", "f[1](1 - x)", "f[1](1/2)"])
        self.assertEqual(texts(odd, [HALF + X - Y, HALF + Y - X], 2), ["f[2](1/2 + x - y)", "-f[2](1/2 + x - y)"])

    def test_lower_texts_not_lower_numbers(self):
        even = Unseen(mirror="even", centre=10)
        self.assertEqual(texts(even, [9, 11, 5, 15, Y, 20 - Y]), ["f(11)", "f(11)", "f(15)", "f(15)", "f(20 - y)", "f(20 - y)"])

    def test_free_functions_stay(self):
        self.assertEqual(texts(Unseen(), [X, -X, 0], 1), ["f[1](x)", "f[1](-x)", "f[1](0)"])

    def test_slopes_change_the_sign(self):
        for fact in [Unseen(mirror="even"), Unseen(mirror="odd"), Unseen(mirror="even", centre=2)]:
            made = world(f=fact)
            sign = 1 if fact.mirror == "even" else -1
            for order in range(6):
                one = unseen_at(made, "f", [order], [X])
                other = unseen_at(made, "f", [order], [2 * fact.centre - X])
                self.assertEqual(one, other * sign)
                self.assertEqual(put_for(made, one, "x", fact.centre).is_zero, sign == -1)
                self.assertEqual(slope_of(made, one, "x"), unseen_at(made, "f", [order + 1], [X]))
                sign = -sign


class TestDegrees(Case):
    def test_values(self):
        self.assertEqual(texts(Unseen(degree=0), [X]), ["f.0"])
        self.assertEqual(texts(Unseen(degree=1), [X]), ["f.0 + f.1*x"])
        self.assertEqual(texts(Unseen(degree=3), [X, 2]), [
            "f.0 + f.1*x + f.2*x^2 + f.3*x^3", "f.0 + 2*f.1 + 4*f.2 + 8*f.3"])
        self.assertEqual(texts(Unseen(degree=1), [1 + Y * X]), ["f.0 + f.1 + f.1*x*y"])

    def test_even_and_odd(self):
        self.assertEqual(texts(Unseen(mirror="even", degree=3), [X]), ["f.0 + f.2*x^2"])
        self.assertEqual(texts(Unseen(mirror="odd", degree=3), [X]), ["f.1*x + f.3*x^3"])
        self.assertEqual(texts(Unseen(mirror="odd", degree=2), [X]), ["f.1*x"])
        self.assertEqual(texts(Unseen(mirror="odd", degree=0), [X]), ["0"])
        self.assertEqual(texts(Unseen(mirror="even", degree=1), [X]), ["f.0"])

    def test_centres(self):
        self.assertEqual(texts(Unseen(mirror="odd", centre=1, degree=1), [X, 1, 0]), ["-f.1 + f.1*x", "0", "-f.1"])
        self.assertEqual(texts(Unseen(mirror="even", centre=HALF, degree=2), [X]), ["f.0 + 1/4*f.2 - f.2*x + f.2*x^2"])

    def test_slopes(self):
        self.assertEqual(texts(Unseen(degree=3), [X], 1), ["f.1 + 2*f.2*x + 3*f.3*x^2"])
        self.assertEqual(texts(Unseen(degree=3), [X], 2), ["2*f.2 + 6*f.3*x"])
        self.assertEqual(texts(Unseen(degree=3), [X], 3), ["6*f.3"])
        self.assertEqual(texts(Unseen(degree=3), [X], 4), ["0"])
        self.assertEqual(texts(Unseen(degree=0), [X], 12), ["0"])
        self.assertEqual(texts(Unseen(mirror="even", centre=1, degree=2), [X], 1), ["-2*f.2 + 2*f.2*x"])

    def test_integrals(self):
        made = world(f=Unseen(degree=2))
        self.assertEqual(integral_of(made, 0, X, "f").text, "f.0*x + 1/2*f.1*x^2 + 1/3*f.2*x^3")
        made = world(f=Unseen(mirror="odd", centre=1, degree=3))
        self.assertEqual(integral_of(made, 1, X + 1, "f").text, "1/2*f.1*x^2 + 1/4*f.3*x^4")
        made = world(f=Unseen(mirror="even", degree=1))
        self.assertEqual(integral_of(made, X, Y, "f").text, "-f.0*x + f.0*y")

    def test_degrees_within_other_functions(self):
        made = world(f=Unseen(degree=1), h=Unseen(mirror="even"))
        form = unseen_at(made, "h", [0], [unseen_at(made, "f", [0], [X])])
        self.assertEqual(form.text, "h(-f.0 - f.1*x)")
        self.assertEqual(slope_of(made, form, "x").text, "-f.1*h[1](-f.0 - f.1*x)")


class TestTwoArguments(Case):
    def pairs(self, swap, rows):
        made = world(g=Unseen(2, swap=swap))
        for i, j, one, other, text in rows:
            self.assertEqual(unseen_at(made, "g", [i, j], [one, other]).text, text)

    def test_free(self):
        self.pairs(None, [(0, 0, X, Y, "g(x, y)"), (0, 0, Y, X, "g(y, x)"), (0, 1, X, X, "g[0,1](x, x)")])

    def test_same(self):
        self.pairs("same", [
            (0, 0, X, Y, "g(x, y)"), (0, 0, Y, X, "g(x, y)"), (1, 2, Y, X, "g[2,1](x, y)"), (1, 2, X, Y, "g[1,2](x, y)"),
            (0, 0, X, X, "g(x, x)"), (0, 1, X, X, "g[1,0](x, x)"), (1, 0, X, X, "g[1,0](x, x)"), (2, 2, X, X, "g[2,2](x, x)"),
            (0, 0, 2, 10, "g(10, 2)"), (0, 1, 10, 2, "g[0,1](10, 2)"), (0, 3, 1 - X, -X, "g[3,0](-x, 1 - x)"),
        ])

    def test_minus(self):
        self.pairs("minus", [
            (0, 0, X, Y, "g(x, y)"), (0, 0, Y, X, "-g(x, y)"), (1, 2, Y, X, "-g[2,1](x, y)"), (1, 2, X, Y, "g[1,2](x, y)"),
            (0, 0, X, X, "0"), (0, 1, X, X, "-g[1,0](x, x)"), (1, 0, X, X, "g[1,0](x, x)"), (2, 2, X, X, "0"),
            (3, 1, Y, Y, "g[3,1](y, y)"), (0, 0, 2, 10, "-g(10, 2)"), (0, 0, 5, 5, "0"),
        ])

    def test_what_is_put_makes_arguments_equal(self):
        made = world(g=Unseen(2, swap="minus"))
        form = unseen_at(made, "g", [0, 0], [X, Y])
        self.assertTrue(put_for(made, form, "x", Y).is_zero)
        self.assertEqual(put_for(made, slope_of(made, form, "y"), "y", X).text, "-g[1,0](x, x)")


class TestNormalForm(Case):
    """Numbers that are written in two ways have one form."""

    def test_random_forms(self):
        source = random.Random(7)
        for _ in range(400):
            made = world(f=self.fact(source), h=self.fact(source), g=Unseen(2, swap=source.choice([None, "same", "minus"])))
            one, other = self.both(made, source, source.randint(1, 4))
            self.assertEqual(one.text, other.text)
            if len(one.terms()) < 60:
                witness = Witness(made, source)
                self.assertEqual(FormText(one.text, witness).answer(), FormText(other.text, witness).answer())

    def fact(self, source):
        mirror = source.choice([None, "even", "odd"])
        centre = source.choice([0, 1, Ratio(-1, 2)]) if mirror else 0
        return Unseen(mirror=mirror, centre=centre, degree=source.choice([None, None, None, None, 0, 1, 2]))

    def both(self, made, source, depth):
        """A form in two ways."""
        way = source.choice(["+", "*", "f", "f", "f", "g", "g", "integral", "slope", "put"]) if depth else "leaf"
        if way == "leaf":
            form = source.choice([X, Y, constant(source.randint(-2, 2))])
            return form, form
        one, other = self.both(made, source, depth - 1)
        if way in ("f", "integral"):
            return self.function(made, source, way, one, other)
        if way == "slope":
            name = source.choice("xy")
            return slope_of(made, one, name), slope_of(made, other, name)
        two, second = self.both(made, source, depth - 1)
        if way == "g":
            return self.pair(made, source, (one, two), (other, second))
        if way == "put":
            name = source.choice("xy")
            return put_for(made, one, name, two), put_for(made, other, name, second)
        return (one + two, second + other) if way == "+" else (one * two, second * other)

    def function(self, made, source, way, one, other):
        name = source.choice("fh")
        fact = made.fact(name)
        order = -1 if way == "integral" else source.randint(0, 2)
        sign = 1
        if fact.mirror and source.random() < 0.7:
            other = 2 * fact.centre - other
            sign = -1 if (fact.mirror == "odd") != (order % 2 == 1) else 1
        if order == -1:
            centre = fact.centre
            return integral_of(made, centre, one, name), sign * integral_of(made, centre, other, name)
        return unseen_at(made, name, [order], [one]), sign * unseen_at(made, name, [order], [other])

    def pair(self, made, source, ones, others):
        i, j = source.randint(0, 2), source.randint(0, 2)
        swap = made.fact("g").swap
        if source.random() < 0.2:
            ones, others = (ones[0], ones[0]), (others[0], others[0])
        sign = {"same": 1, "minus": -1, None: 0}[swap]
        if sign and source.random() < 0.7:
            return unseen_at(made, "g", [i, j], ones), sign * unseen_at(made, "g", [j, i], others[::-1])
        return unseen_at(made, "g", [i, j], ones), unseen_at(made, "g", [i, j], others)


if __name__ == "__main__":
    unittest.main()
