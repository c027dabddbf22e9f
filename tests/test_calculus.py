"""Slopes of forms, and forms put for inputs ([7])."""

import random
import unittest

from helpers import Case
from oracle import FormText, Witness
from unseenslopes.calculus import input_form, integral_of, put_for, slope_of, unseen_at
from unseenslopes.forms import Form, constant
from unseenslopes.meaning import meaning
from unseenslopes.programs import Program
from unseenslopes.ratios import Ratio
from unseenslopes.unseen import Unseen, World

WORLD = World(["x", "y"], {
    "f": Unseen(), "e": Unseen(mirror="even"), "g": Unseen(2), "s": Unseen(2, swap="minus"),
})
X = input_form(WORLD, "x")
Y = input_form(WORLD, "y")


def f(place, order=0):
    return unseen_at(WORLD, "f", [order], [place])


def g(one, other, i=0, j=0, name="g"):
    return unseen_at(WORLD, name, [i, j], [one, other])


def mean(text):
    return meaning(Program(WORLD, text))


class TestSlopes(Case):
    def test_texts(self):
        rows = [
            (constant(5), "0"), (X, "1"), (Y, "0"), (X ** 3, "3*x^2"), (X * Y + Y, "y"), (f(X), "f[1](x)"), (f(Y), "0"),
            (f(X, 12), "f[13](x)"), (f(2 * X), "2*f[1](2*x)"), (f(f(X)), "f[1](f(x))*f[1](x)"), (f(X) ** 2, "2*f(x)*f[1](x)"),
            (f(X) * f(Y) * X, "f(x)*f(y) + f(y)*f[1](x)*x"), (integral_of(WORLD, Y, X, "f"), "f(x)"),
            (integral_of(WORLD, X, X * X, "f"), "-f(x) + 2*f(x^2)*x"), (g(X, Y), "g[1,0](x, y)"), (g(Y, X), "g[0,1](y, x)"),
            (g(X, X), "g[0,1](x, x) + g[1,0](x, x)"), (g(X, X, 2, 3), "g[2,4](x, x) + g[3,3](x, x)"),
            (g(f(X), X * X), "f[1](x)*g[1,0](f(x), x^2) + 2*g[0,1](f(x), x^2)*x"),
            (unseen_at(WORLD, "e", [0], [X * X]), "-2*e[1](-x^2)*x"), (g(X, Y, name="s"), "s[1,0](x, y)"),
            (g(X, X, 1, 0, name="s"), "s[2,0](x, x)"), (g(2 * X, X * 2, 1, 0, name="s"), "2*s[2,0](2*x, 2*x)"),
            (mean("?1 * x * x + ?2"), "2*?1*x"), (mean("?1 * f(y)"), "0"),
        ]
        for form, text in rows:
            made = slope_of(WORLD, form, "x")
            self.assertIsInstance(made, Form)
            self.assertEqual(made.text, text)

    def test_by_name(self):
        self.assertEqual(slope_of(name="y", form=X * Y, world=WORLD).text, "x")

    def test_coefficients_have_no_slope(self):
        world = World(["x"], {"p": Unseen(degree=3)})
        x = input_form(world, "x")
        form = unseen_at(world, "p", [0], [x])
        self.assertEqual(slope_of(world, form, "x"), unseen_at(world, "p", [1], [x]))
        self.assertEqual(slope_of(world, unseen_at(world, "p", [3], [x]), "x").text, "0")

    def test_the_form_stays(self):
        form = f(X * Y) * X
        slope_of(WORLD, form, "x")
        put_for(WORLD, form, "x", Y)
        self.assertEqual(form.text, "f(x*y)*x")

    def test_rules(self):
        forms = [X, Y, f(X), f(X * Y, 1), g(X, f(Y)), g(Y, X * X, 0, 1, "s"), X * f(f(X)) - 2, integral_of(WORLD, X, Y * X, "e")]
        for name in ("x", "y"):
            for one in forms:
                slope = slope_of(WORLD, one, name)
                self.assertEqual(slope_of(WORLD, slope, "xy".replace(name, "")),
                                 slope_of(WORLD, slope_of(WORLD, one, "xy".replace(name, "")), name))
                for other in forms:
                    second = slope_of(WORLD, other, name)
                    self.assertEqual(slope_of(WORLD, one + other, name), slope + second)
                    self.assertEqual(slope_of(WORLD, one * other, name), slope * other + one * second)
                    self.assertEqual(slope_of(WORLD, 3 * one - Ratio(1, 2) * other, name), 3 * slope - Ratio(1, 2) * second)


class TestPut(Case):
    def test_texts(self):
        rows = [
            (X, "x", Y, "y"), (X, "y", 5, "x"), (X * X + Y, "x", X + 1, "1 + 2*x + x^2 + y"), (f(X), "x", 0, "f(0)"),
            (f(f(X)), "x", f(Y), "f(f(f(y)))"), (f(X + Y), "x", -Y, "f(0)"), (g(X, Y), "x", Y, "g(y, y)"),
            (g(X, Y, name="s"), "x", Y, "0"), (f(X, 3), "x", Ratio(1, 2), "f[3](1/2)"),
            (integral_of(WORLD, 0, X, "f"), "x", 0, "0"), (integral_of(WORLD, Y, X, "f"), "x", Y, "0"),
            (unseen_at(WORLD, "e", [1], [X]), "x", 0, "0"), (unseen_at(WORLD, "e", [0], [X]), "x", -Y, "e(-y)"),
            (mean("?1 * x"), "x", X + Y, "?1*x + ?1*y"), (constant(3), "x", Y, "3"), (X ** 3, "x", constant(2), "8"),
            (f(X) - f(Y), "x", Y, "0"), (X * f(X) + Y, "x", f(X) * 0, "y"),
        ]
        for form, name, other, text in rows:
            made = put_for(WORLD, form, name, other)
            self.assertIsInstance(made, Form)
            self.assertEqual(made.text, text)

    def test_by_name(self):
        self.assertEqual(put_for(world=WORLD, form=X * Y, name="y", other=2).text, "2*x")

    def test_an_input_put_for_itself(self):
        for form in [X, f(X), f(f(X, 2) * X) * Y, g(X, f(Y)), integral_of(WORLD, X, Y, "f"), constant(1)]:
            self.assertEqual(put_for(WORLD, form, "x", X), form)
            self.assertEqual(put_for(WORLD, put_for(WORLD, form, "x", X + 1), "x", X - 1), form)

    def test_two_inputs_in_either_order(self):
        for form in [X * Y, f(X - Y), g(X, f(Y), 1, 2), f(f(X) * Y) + X, g(Y, X, name="s")]:
            one = put_for(WORLD, put_for(WORLD, form, "x", 2), "y", Ratio(1, 3))
            self.assertEqual(one, put_for(WORLD, put_for(WORLD, form, "y", Ratio(1, 3)), "x", 2))
            one = slope_of(WORLD, slope_of(WORLD, form, "x"), "y")
            self.assertEqual(one, slope_of(WORLD, slope_of(WORLD, form, "y"), "x"))
            one = slope_of(WORLD, put_for(WORLD, form, "x", 7), "y")
            self.assertEqual(one, put_for(WORLD, slope_of(WORLD, form, "y"), "x", 7))

    def test_what_is_put_is_not_put_again(self):
        form = f(X * Y) + X
        self.assertEqual(put_for(WORLD, form, "x", X * X).text, "f(x^2*y) + x^2")
        self.assertEqual(put_for(WORLD, form, "x", Y + X).text, "f(x*y + y^2) + x + y")

    def test_chain_rule(self):
        outer = g(X, f(X)) * X
        inner = f(Y) * Y + 1
        self.assertEqual(
            slope_of(WORLD, put_for(WORLD, outer, "x", inner), "y"),
            put_for(WORLD, slope_of(WORLD, outer, "x"), "x", inner) * slope_of(WORLD, inner, "y"))

    def test_against_numbers(self):
        source = random.Random(3)
        forms = [f(X), f(f(X) - Y), g(X, Y), g(f(Y), X), g(X, Y, 1, 1, "s"), integral_of(WORLD, X, Y, "e"), X * Y - 1]
        for _ in range(60):
            one, other = source.choice(forms), source.choice(forms)
            form = one * other + source.choice(forms)
            witness = Witness(WORLD, source)
            witness.shapes["f"].worths = witness.shapes["f"].worths[:3]
            put = put_for(WORLD, form, "x", other)
            answer = FormText(put.text, witness).answer()
            witness.numbers["x"] = FormText(other.text, witness).answer()
            self.assertEqual(FormText(form.text, witness).answer(), answer)


class TestDepth(Case):
    def test_thousands_of_functions_within_one_another(self):
        form = X
        for _ in range(1500):
            form = f(form)
        self.assertEqual(len(form.text), 1500 * 3 + 1)
        moved = put_for(WORLD, form, "x", Y)
        self.assertEqual(moved.text, form.text.replace("x", "y"))
        self.assertTrue(slope_of(WORLD, form, "y").is_zero)
        form = X
        for _ in range(400):
            form = f(form)
        self.assertEqual(slope_of(WORLD, form, "x").text.count("*"), 399)


if __name__ == "__main__":
    unittest.main()
