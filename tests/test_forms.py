"""Forms, atoms and their texts ([5]), and the atoms that calculus makes."""

import random
import unittest

from helpers import ANY_VALUES, Case
from oracle import FormText, Witness
from unseenslopes.calculus import input_form, integral_of, slope_of, unseen_at
from unseenslopes.errors import InvalidNumber, UnknownName, WrongKind
from unseenslopes.forms import Form, constant
from unseenslopes.programs import Program
from unseenslopes.meaning import meaning
from unseenslopes.ratios import Ratio
from unseenslopes.unseen import Unseen, World

FREE = World(["x", "y"], {"f": Unseen(), "g": Unseen(2), "p": Unseen(degree=2)})
X = input_form(FREE, "x")
Y = input_form(FREE, "y")


def f(place, order=0):
    return unseen_at(FREE, "f", [order], [place])


def g(one, other, i=0, j=0):
    return unseen_at(FREE, "g", [i, j], [one, other])


class TestConstants(Case):
    def test_texts(self):
        rows = [(0, "0"), (1, "1"), (-1, "-1"), (Ratio(1, 2), "1/2"), (Ratio(-6, 4), "-3/2"), (10 ** 29, "1" + "0" * 29)]
        for number, text in rows:
            form = constant(number)
            self.assertIsInstance(form, Form)
            self.assertEqual(form.text, text)
            self.assertEqual(str(form), text)
            self.assertEqual(repr(form), f"Form({text})")
            self.assertIs(form.is_zero, number == 0)
            self.assertEqual(form.terms(), [] if number == 0 else [("", number)])
        self.assertEqual(constant(number=3).text, "3")

    def test_numbers_of_any_size(self):
        form = (constant(10 ** 30) ** 24) ** 10
        self.assertEqual(form.text, "1" + "0" * 7200)
        self.assertEqual((form - form + X).text, "x")
        self.assertEqual((X * form).text, "1" + "0" * 7200 + "*x")


class TestInputs(Case):
    def test_texts(self):
        self.assertEqual(X.text, "x")
        self.assertEqual(X.terms(), [("x", Ratio(1))])
        self.assertEqual(input_form(name="y", world=FREE).text, "y")

    def test_unknown_names(self):
        for value in [*[value for value in ANY_VALUES if value != "x"], "f", "g", "z", "fn", ["x"], X]:
            self.assert_fails(UnknownName(value), input_form, FREE, value)


class TestUnseenAt(Case):
    def test_texts_of_atoms(self):
        rows = [
            (f(X), "f(x)"),
            (f(X, 1), "f[1](x)"),
            (f(X, 12), "f[12](x)"),
            (f(0), "f(0)"),
            (f(Ratio(-1, 2), 2), "f[2](-1/2)"),
            (f(1 + X), "f(1 + x)"),
            (f(-X - Y), "f(-x - y)"),
            (f(f(X, 1) * Y), "f(f[1](x)*y)"),
            (g(X, Y), "g(x, y)"),
            (g(Y, X), "g(y, x)"),
            (g(X, X, 0, 1), "g[0,1](x, x)"),
            (g(2, f(X), 12, 0), "g[12,0](2, f(x))"),
            (g(g(X, 0), -Y, 1, 2), "g[1,2](g(x, 0), -y)"),
            (integral_of(FREE, 0, X, "f"), "f[-1](x)"),
            (integral_of(FREE, 1, 2 * X, "f"), "-f[-1](1) + f[-1](2*x)"),
        ]
        for form, text in rows:
            self.assertEqual(form.text, text)
            self.assertEqual(str(form), text)
            self.assertEqual(repr(form), f"Form({text})")

    def test_terms_of_an_atom(self):
        self.assertEqual(f(X).terms(), [("f(x)", Ratio(1))])

    def test_all_orders(self):
        for i in range(13):
            self.assertEqual(f(X, i).text, f"f[{i}](x)" if i else "f(x)")
            for j in range(13):
                self.assertEqual(g(X, Y, i, j).text, f"g[{i},{j}](x, y)" if i or j else "g(x, y)")

    def test_lists_and_tuples_stay_as_they_were(self):
        orders, given = [1, 0], [X, 2]
        self.assertEqual(unseen_at(FREE, "g", orders, given).text, "g[1,0](x, 2)")
        self.assertEqual((orders, len(given)), ([1, 0], 2))
        self.assertIs(given[0], X)
        self.assertEqual(unseen_at(world=FREE, name="g", orders=(1, 0), given=(X, 2)).text, "g[1,0](x, 2)")

    def test_unknown_names(self):
        for value in [*ANY_VALUES, "y", "z"]:
            self.assert_fails(UnknownName(value), unseen_at, FREE, value, [0], [X])
            self.assert_fails(UnknownName(value), unseen_at, FREE, value, ["a"], [])
            self.assert_fails(UnknownName(value), integral_of, FREE, 0, X, value)

    def test_wrong_kinds(self):
        for name, orders, given in [
            ("f", [], []), ("f", [0], []), ("f", [], [X]), ("f", [0, 0], [X, X]), ("f", [0], [X, X]), ("f", [0, 0], [X]),
            ("g", [0], [X]), ("g", [0, 0], [X]), ("g", [0], [X, X]), ("g", [], []), ("g", [0, 0, 0], [X, X, X]),
            ("f", ["a", "b"], [X]), ("g", [13], [X, Y]),
        ]:
            self.assert_fails(WrongKind(0), unseen_at, FREE, name, orders, given)
        self.assert_fails(WrongKind(0), integral_of, FREE, 0, X, "g")

    def test_wrong_orders(self):
        for value in [None, True, False, "1", [1], -1, 13, 10 ** 40, Ratio(1), Ratio(1, 2)]:
            self.assert_fails(InvalidNumber(value), unseen_at, FREE, "f", [value], [X])
            self.assert_fails(InvalidNumber(value), unseen_at, FREE, "g", [0, value], [X, Y])
            self.assert_fails(InvalidNumber(value), unseen_at, FREE, "g", [value, -5], [X, Y])


class TestArithmetic(Case):
    def test_the_example_of_the_document(self):
        form = 3 * f(1 + X) - X ** 2 - Ratio(1, 2)
        self.assertEqual(form.text, "-1/2 + 3*f(1 + x) - x^2")
        self.assertEqual(form.terms(), [("", Ratio(-1, 2)), ("f(1 + x)", 3), ("x^2", -1)])

    def test_texts(self):
        rows = [
            (X + Y, "x + y"), (Y + X, "x + y"), (X - Y, "x - y"), (Y - X, "-x + y"), (-X - Y, "-x - y"), (X - X, "0"),
            (X * Y, "x*y"), (Y * X, "x*y"), (X * f(X) * f(X), "f(x)^2*x"), (2 * X - Ratio(3, 2) * Y, "2*x - 3/2*y"),
            (1 - X, "1 - x"), (X - 1, "-1 + x"), (Ratio(1, 2) * (X + Y), "1/2*x + 1/2*y"), (0 * X, "0"), (X * 0, "0"),
            (X + 0, "x"), (0 - X, "-x"), ((X + Y) * (X - Y), "x^2 - y^2"), ((X + 1) ** 3, "1 + 3*x + 3*x^2 + x^3"),
            (X ** 10 + X ** 2, "x^10 + x^2"), (f(X) + f(X, 1) + f(Y), "f(x) + f(y) + f[1](x)"),
            (X + f(X) * Y + 7, "7 + f(x)*y + x"), (f(X - Y) * f(Y - X), "f(-x + y)*f(x - y)"),
            (-(X - Y), "-x + y"), (X * -1, "-x"), (X * Ratio(-1, 3), "-1/3*x"), (Ratio(1, 3) - X, "1/3 - x"),
        ]
        for form, text in rows:
            self.assertEqual(form.text, text)
            self.assertIs(form.is_zero, text == "0")
            self.assertEqual(len(form.terms()), 0 if text == "0" else 1 + text.count(" + ") + text.count(" - ")
                             - text.count("(x - y)") - text.count("(-x + y)"))

    def test_order_of_products_and_atoms(self):
        world = World(["a", "ab", "b"], {"f": Unseen(degree=3), "aa": Unseen()})
        a, ab, b = [input_form(world, name) for name in ("a", "ab", "b")]
        self.assertEqual((b * ab * a).text, "a*ab*b")
        self.assertEqual((ab + a * b + a + a ** 2).text, "a + a*b + a^2 + ab")
        self.assertEqual((ab ** 2 * a).text, "a*ab^2")
        cubic = unseen_at(world, "f", [0], [a])
        self.assertEqual(cubic.text, "a*f.1 + a^2*f.2 + a^3*f.3 + f.0")
        self.assertEqual([text for text, _ in cubic.terms()], ["a*f.1", "a^2*f.2", "a^3*f.3", "f.0"])
        self.assertEqual((unseen_at(world, "aa", [0], [b]) * a * ab).text, "a*aa(b)*ab")

    def test_powers(self):
        for form in [X, X + Y, f(X) - 1, constant(0), constant(2)]:
            product = constant(1)
            for power in range(25):
                self.assertEqual((form ** power).text, product.text)
                product = product * form if power < 8 or len(form.terms()) < 2 else form ** (power + 1)
        rows = ((X + Y) ** 24).terms()
        self.assertEqual(rows[:3], [("x*y^23", 24), ("x^10*y^14", 1961256), ("x^11*y^13", 2496144)])
        self.assertEqual((constant(0) ** 0).text, "1")

    def test_rules_of_sums_and_products(self):
        forms = [X, Y, f(X), f(X + Y, 1), g(X, Y), 1 - X, X * f(Y) + 2, integral_of(FREE, X, Y, "f"), constant(0), f(f(X))]
        for one in forms:
            for two in forms:
                self.assertEqual(one + two, two + one)
                self.assertEqual(one * two, two * one)
                self.assertEqual(one - two, one + -two)
                self.assertEqual(one - two, -(two - one))
                self.assertTrue((one + two - two - one).is_zero)
                for three in forms:
                    self.assertEqual((one + two) + three, one + (two + three))
                    self.assertEqual((one * two) * three, one * (two * three))
                    self.assertEqual((one + two) * three, one * three + two * three)

    def test_numbers_on_both_sides(self):
        for number in [0, 1, -3, Ratio(0), Ratio(2, 3), Ratio(-5, 2)]:
            same = constant(number)
            for form in [X, f(X) - 2, constant(0)]:
                for made, want in [
                    (form + number, form + same), (number + form, same + form), (form - number, form - same),
                    (number - form, same - form), (form * number, form * same), (number * form, same * form),
                ]:
                    self.assertIsInstance(made, Form)
                    self.assertEqual(made.text, want.text)

    def test_operands_stay_as_they_were(self):
        one, other = X + f(Y), 2 * X - 1
        one + other, one - other, one * other, -one, one ** 3
        one.terms().clear()
        self.assertEqual((one.text, other.text), ("f(y) + x", "-1 + 2*x"))
        self.assertEqual(one.terms(), [("f(y)", 1), ("x", 1)])

    def test_equality(self):
        self.assertTrue(X + Y == Y + X)
        self.assertFalse(X + Y != Y + X)
        self.assertFalse(X == Y)
        self.assertTrue(constant(1) == constant(Ratio(2, 2)))
        other = input_form(World(["x"], {}), "x")
        self.assertTrue(X == other)
        for value in [*ANY_VALUES, 1, Ratio(1), "1"]:
            self.assertFalse(constant(1) == value)
            self.assertTrue(constant(1) != value)
        self.assertFalse(X == "x")


class TestBlanksAndCoefficients(Case):
    def test_blanks(self):
        form = meaning(Program(FREE, "?2 * x - 3 * (?1 + ?6) * f(x) + ?1"))
        self.assertEqual(form.text, "?1 - 3*?1*f(x) + ?2*x - 3*?6*f(x)")
        self.assertEqual(form.terms()[0], ("?1", Ratio(1)))

    def test_coefficients(self):
        form = unseen_at(FREE, "p", [0], [X])
        self.assertEqual(form.text, "p.0 + p.1*x + p.2*x^2")
        self.assertEqual((form * form).terms()[0], ("p.0*p.1*x", 2))

    def test_slopes_of_slopes_at_forms(self):
        form = f(f(X, 1) + integral_of(FREE, 0, Y, "f"), 2)
        self.assertEqual(form.text, "f[2](f[-1](y) + f[1](x))")
        self.assertEqual(slope_of(FREE, form, "y").text, "f(y)*f[3](f[-1](y) + f[1](x))")


class TestAgainstNumbers(Case):
    def test_random_forms_have_the_worth_of_their_texts(self):
        source = random.Random(5)
        for _ in range(300):
            witness = Witness(FREE, source)
            form, worth = self.made(source, witness, 4)
            self.assertEqual(FormText(form.text, witness).answer(), worth)
            total = constant(0)
            for text, coefficient in form.terms():
                product = FormText(text or "1", witness).answer()
                total = total + coefficient * constant(Ratio(product.numerator, product.denominator))
            self.assertEqual(total.text, str(worth))
            self.assertEqual([text for text, _ in form.terms()], sorted(text for text, _ in form.terms()))

    def made(self, source, witness, depth):
        """A random form and its worth."""
        way = source.choice("+-*^n") if depth else source.choice("xyfgk")
        if way in "xy":
            return {"x": X, "y": Y}[way], witness.numbers[way]
        if way == "f":
            return f(X, 1), FormText("f[1](x)", witness).answer()
        if way == "g":
            return g(X, Y), FormText("g(x, y)", witness).answer()
        number = source.randint(-3, 3)
        if way == "k":
            return constant(number), number
        one, left = self.made(source, witness, depth - 1)
        if way == "n":
            return number - one * number, number - left * number
        if way == "^":
            return one ** 2, left ** 2
        other, right = self.made(source, witness, depth - 1)
        if way == "+":
            return one + other, left + right
        return (one - other, left - right) if way == "-" else (one * other, left * right)


if __name__ == "__main__":
    unittest.main()
