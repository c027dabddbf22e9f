"""The examples of the document."""

import unittest

from helpers import Case
from unseenslopes.back import way_back
from unseenslopes.blanks import fill
from unseenslopes.codes import Code
from unseenslopes.curves import Curve
from unseenslopes.errors import InvalidText, WrongKind
from unseenslopes.meaning import meaning
from unseenslopes.programs import Program
from unseenslopes.rules import right_rules
from unseenslopes.unseen import Unseen, World
from unseenslopes.verdicts import compare, order_of


class TestExamples(Case):
    def test_slope_of_a_function_of_a_function(self):
        world = World(["x"], {"f": Unseen(), "g": Unseen()})
        self.assertEqual(str(meaning(Program(world, "slope(fn t: f(g(t)))(x)"))), "f[1](g(x))*g[1](x)")

    def test_even_function(self):
        world = World(["x"], {"f": Unseen(mirror="even")})
        self.assertEqual(str(meaning(Program(world, "f[1](x) + f[1](-x) + 2 * f(-x)"))), "2*f(-x)")

    def test_right_rules(self):
        world = World(["x"], {"f": Unseen()})
        rules = right_rules(Program(world, "slope(fn a: a * slope(fn b: a + b)(1))(x)"))
        self.assertEqual(rules, ["site kept", "site renewed", "depth kept", "depth renewed", "new kept", "new renewed"])

    def test_order(self):
        world = World(["x", "h"], {"f": Unseen()})
        self.assertEqual(order_of(Program(world, "f(x + h) - f(x - h)"), Program(world, "2 * h * f[1](x)"), name="h"), 3)

    def test_fill(self):
        world = World(["x", "h"], {"f": Unseen()})
        formula = Program(world, "h * (?1 * f(x) + ?2 * f(x + h))")
        one, other = fill(formula, Program(world, "integral(x, x + h, f)"), name="h", power=3).point()
        self.assertEqual([str(one), str(other)], ["1/2", "1/2"])

    def test_way_back(self):
        world = World(["x", "y"], {"f": Unseen()})
        code = Code(world, [(0, "in", "x"), (1, "in", "y"), (0, "mul", 0, 1), (0, "one", "f", 0, 0)], [0])
        one, other = way_back(code).forms()
        self.assertEqual([str(one), str(other)], ["f[1](x*y)*y", "f[1](x*y)*x"])

    def test_compare(self):
        world = World(["x"], {"f": Unseen(), "g": Unseen(2, swap="same")})
        found = [bool(compare(Program(world, one), Program(world, other))) for one, other in [("g(x, f(x))", "g(f(x), x)"), ("f(f(x))", "f(x)")]]
        self.assertEqual(found, [True, False])

    def test_errors(self):
        world = World(["x"], {"f": Unseen()})
        self.assert_fails(InvalidText(3), Program, world, "f(x")
        self.assert_fails(WrongKind(2), Program, world, "x + f")

    def test_curve(self):
        curve = Curve([1, 0, 3])
        self.assertEqual([str(curve(2)), str(curve.slope_curve()), str(curve.integral_curve(1))], ["13", "0 6", "-2 1 0 1"])


if __name__ == "__main__":
    unittest.main()
