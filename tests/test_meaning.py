"""The meanings of programs ([10]), with the examples of the document."""

import unittest

from helpers import Case
from unseenslopes.errors import InvalidText, WrongKind
from unseenslopes.forms import Form
from unseenslopes.meaning import meaning
from unseenslopes.programs import Program
from unseenslopes.ratios import Ratio
from unseenslopes.unseen import Unseen, World

WORLD = World(["x", "y"], {"f": Unseen(), "g": Unseen(2), "h": Unseen(mirror="odd"), "p": Unseen(degree=2)})


def mean(text):
    return str(meaning(Program(WORLD, text)))


class TestExamples(Case):
    def test_slope_of_a_composition(self):
        world = World(["x"], {"f": Unseen(), "g": Unseen()})
        self.assertEqual(str(meaning(Program(world, "slope(fn t: f(g(t)))(x)"))), "f[1](g(x))*g[1](x)")

    def test_even_function(self):
        world = World(["x"], {"f": Unseen(mirror="even")})
        self.assertEqual(str(meaning(Program(world, "f[1](x) + f[1](-x) + 2 * f(-x)"))), "2*f(-x)")

    def test_errors(self):
        self.assert_fails(InvalidText(3), Program, World(["x"], {"f": Unseen()}), "f(x")
        self.assert_fails(WrongKind(2), Program, World(["x"], {"f": Unseen()}), "x + f")

    def test_slopes_that_are_mixed_up_by_a_tag(self):
        world = World(["x"], {"f": Unseen()})
        self.assertEqual(str(meaning(Program(world, "slope(fn a: a * slope(fn b: a + b)(1))(x)"))), "1")

    def test_programs_of_other_examples(self):
        world = World(["x", "h"], {"f": Unseen()})
        self.assertEqual(str(meaning(Program(world, "f(x + h) - f(x - h)"))), "-f(-h + x) + f(h + x)")
        self.assertEqual(str(meaning(Program(world, "2 * h * f[1](x)"))), "2*f[1](x)*h")
        self.assertEqual(str(meaning(Program(world, "h * (?1 * f(x) + ?2 * f(x + h))"))), "?1*f(x)*h + ?2*f(h + x)*h")
        self.assertEqual(str(meaning(Program(world, "integral(x, x + h, f)"))), "f[-1](h + x) - f[-1](x)")
        world = World(["x"], {"f": Unseen(), "g": Unseen(2, swap="same")})
        one, other = [meaning(Program(world, text)) for text in ("g(x, f(x))", "g(f(x), x)")]
        self.assertEqual(one, other)
        one, other = [meaning(Program(world, text)) for text in ("f(f(x))", "f(x)")]
        self.assertNotEqual(one, other)


class TestNumbers(Case):
    def test_sums_and_products(self):
        rows = [
            ("0", "0"), ("4/6", "2/3"), ("x - x", "0"), ("x - y - x", "-y"), ("x - (y - x)", "2*x - y"), ("-x * -y", "x*y"),
            ("-(x + y) * 2", "-2*x - 2*y"), ("2 * 3 - 1/2", "11/2"), ("x * y * x", "x^2*y"), ("f(x) * f(x)", "f(x)^2"),
            ("?1 * x - ?2 + ?1 * x", "2*?1*x - ?2"), ("f(x + y) - f(y + x)", "0"), ("f(1/2 * x + 1/2 * x)", "f(x)"),
            ("f[0](x) - f(x)", "0"), ("f[4](x)", "f[4](x)"), ("g[0,0](x, y)", "g(x, y)"), ("g[4,3](x, y)", "g[4,3](x, y)"),
            ("p(x) - p(-x)", "2*p.1*x"), ("h(x) + h(-x)", "0"), ("h(0)", "0"), ("f((fn t: t * t)(x + 1))", "f(1 + 2*x + x^2)"),
        ]
        for text, want in rows:
            self.assertEqual(mean(text), want)
        self.assertIsInstance(meaning(program=Program(WORLD, "x")), Form)

    def test_blanks_are_atoms(self):
        form = meaning(Program(WORLD, "?3 * (x) + 2 * ?1"))
        self.assertEqual(form.text, "2*?1 + ?3*x")
        self.assertEqual(form.terms(), [("?1", Ratio(2)), ("?3*x", Ratio(1))])

    def test_lets(self):
        rows = [
            ("let a = x; let b = a * a; b * b", "x^4"), ("let a = f; a(a(x))", "f(f(x))"), ("let a = fn t: t + x; a(a(y))", "2*x + y"),
            ("let a = fn t: fn s: t - s; a(x)(y) + a(y)(x)", "0"), ("let a = f(x); let b = fn t: a * t; b(a)", "f(x)^2"),
            ("let a = 1; let b = fn t: t + a; let c = fn t: b(b(t)); c(c(x))", "4 + x"), ("let a = f(x); 3", "3"),
        ]
        for text, want in rows:
            self.assertEqual(mean(text), want)

    def test_functions_that_take_functions(self):
        rows = [
            ("(fn @q: q(q(x)))(f)", "f(f(x))"), ("(fn @q: q(x))(fn t: t * y)", "x*y"), ("(fn @q: fn @r: q(r(x)))(f)(fn t: t + 1)", "f(1 + x)"),
            ("let a = fn @q: fn t: q(q(t)); a(a(a(fn t: t * 2)))(x)", "256*x"), ("(fn @q: q)(f)(x)", "f(x)"),
            ("(fn t: fn @q: q(t))(x)(f[2])", "f[2](x)"), ("(fn @q: integral(q(x), q(y), f))(fn t: t * t)", "-f[-1](x^2) + f[-1](y^2)"),
            ("(fn @q: (fn t: fn s: q(s))(y)(x))(f)", "f(x)"),
        ]
        for text, want in rows:
            self.assertEqual(mean(text), want)

    def test_names_stand_for_what_was_bound_where_they_stand(self):
        rows = [
            ("let a = fn t: fn s: t; (fn u: a(x)(u))(y)", "x"), ("let a = fn s: s; (fn s: a(1) + s)(x)", "1 + x"),
            ("let a = fn t: fn s: t * s; let b = a(x); let c = a(y); b(1) + c(2)", "x + 2*y"),
            ("(fn @q: (fn t: q(t) + t)(y))(fn t: t * x)", "x*y + y"),
        ]
        for text, want in rows:
            self.assertEqual(mean(text), want)


class TestSlopes(Case):
    def test_of_numbers(self):
        rows = [
            ("slope(f)(x)", "f[1](x)"), ("slope(f[3])(x)", "f[4](x)"), ("slope(fn t: t * t * t)(x)", "3*x^2"), ("slope(fn t: y)(x)", "0"),
            ("slope(fn t: t * f(t))(x)", "f(x) + f[1](x)*x"), ("slope(fn t: f(f(t)))(x)", "f[1](f(x))*f[1](x)"),
            ("slope(fn t: g(t, t))(x)", "g[0,1](x, x) + g[1,0](x, x)"), ("slope(fn t: g(y, t))(x)", "g[0,1](y, x)"),
            ("slope(f)(f(x))", "f[1](f(x))"), ("slope(fn t: f(t * x))(x)", "f[1](x^2)*x"), ("slope(fn t: x * t)(x * y)", "x"),
            ("slope(h)(0) - slope(h)(x) + slope(h)(-x)", "h[1](0)"), ("slope(p)(x)", "p.1 + 2*p.2*x"),
            ("slope(fn t: integral(t, t * t, f))(x)", "-f(x) + 2*f(x^2)*x"), ("slope(fn t: integral(y, t, f))(x)", "f(x)"),
            ("slope(fn t: ((fn s: s * s)(t)))(x)", "2*x"), ("2 * -slope(f)(1/2)", "-2*f[1](1/2)"),
        ]
        for text, want in rows:
            self.assertEqual(mean(text), want)

    def test_of_slopes(self):
        rows = [
            ("slope(slope(f))(x)", "f[2](x)"), ("slope(slope(slope(slope(f))))(x)", "f[4](x)"),
            ("slope(slope(fn t: f(t) * t))(x)", "2*f[1](x) + f[2](x)*x"), ("slope(fn t: slope(fn s: f(s * t))(t))(x)", "f[1](x^2) + 2*f[2](x^2)*x^2"),
            ("slope(fn t: t * slope(fn s: t + s)(1))(x)", "1"), ("slope(fn t: t * slope(fn s: t * s)(2))(x)", "2*x"),
            ("slope(fn t: slope(f)(t) * slope(f)(t))(x)", "2*f[1](x)*f[2](x)"),
            ("slope(" * 8 + "f" + ")" * 8 + "(x)", "f[8](x)"),
        ]
        for text, want in rows:
            self.assertEqual(mean(text), want)
        self.assertEqual(
            mean("slope(fn t: slope(fn s: slope(fn r: g(t * s, r))(s))(t))(x)"),
            mean("slope(fn t: t * g[1,1](t * t, t) + g[0,2](t * t, t))(x)"))

    def test_of_lets(self):
        rows = [
            ("let a = fn t: f(t) * y; slope(a)(x)", "f[1](x)*y"), ("let a = slope(f); a(a(x))", "f[1](f[1](x))"),
            ("let a = fn @q: slope(q); a(f)(x)", "f[1](x)"), ("let d = fn @q: slope(slope(q)); d(fn t: t * t)(x)", "2"),
            ("let a = fn t: fn s: t * s; slope(a(x))(y)", "x"), ("let a = fn t: fn s: t * s; slope(a)(x)(y)", "y"),
        ]
        for text, want in rows:
            self.assertEqual(mean(text), want)

    def test_of_functions_that_return_functions(self):
        rows = [
            ("slope(fn t: fn s: t * t * s)(x)(y)", "2*x*y"), ("slope(fn t: fn @q: q(t * t))(x)(f)", "2*f[1](x^2)*x"),
            ("slope(fn t: fn s: f(t) * s)(x)(x)", "f[1](x)*x"), ("slope(fn t: fn s: fn r: t * s * r)(x)(y)(2)", "2*y"),
            ("slope(slope(fn t: fn s: g(t, s))(x))(y)", "g[1,1](x, y)"), ("slope(slope(fn t: fn s: g(t, s)))(x)(y)", "g[2,0](x, y)"),
            ("slope(fn u: slope(fn t: fn s: t * t * s)(u)(u))(x)", "4*x"), ("slope(fn t: fn s: t)(x)(y) + 1", "2"),
            ("slope(fn t: fn @q: fn s: q(t + s))(x)(f)(y)", "f[1](x + y)"), ("slope(fn t: f)(x)(y)", "0"),
            ("slope(fn t: slope(fn s: f(t * s)))(x)(y)", "f[1](x*y) + f[2](x*y)*x*y"),
            ("let a = slope(fn t: fn s: t * s)(x); a(y) - a(3)", "-3 + y"),
            ("slope(fn t: fn @q: q(t) * t)(x)(fn t: t * t)", "3*x^2"), ("(fn @q: q(y))(slope(fn t: fn s: t * s)(x))", "y"),
            ("slope(slope(fn t: fn s: fn r: t * t * s * s * r)(x))(y)(3)", "12*x*y"),
        ]
        for text, want in rows:
            self.assertEqual(mean(text), want, text)

    def test_the_input_of_a_slope_is_new_for_each_slope(self):
        rows = [
            # The argument uses the parameter of the slope around it.
            ("slope(fn t: slope(fn s: s * s)(t))(x)", "2"), ("slope(fn t: slope(fn s: s * t)(t) * t)(x)", "2*x"),
            # A function that was made within a slope is used again within another one.
            ("slope(fn t: (fn @q: slope(fn s: q(s) * t)(t))(fn u: u * t))(x)", "2*x"),
            ("let a = fn t: fn @q: q(t); slope(fn t: slope(fn s: a(s)(fn u: u * t))(y))(x)", "1"),
            ("let a = slope(fn t: fn @q: q(q(t))); a(x)(fn u: u * u)", "4*x^3"),
            ("slope(fn t: fn @q: fn s: q(q(s + t)))(x)(f)(y) - slope(fn t: fn @q: q(q(y + t)))(x)(f)", "0"),
            ("let b = fn t: fn @q: q(q(t)); slope(b)(x)(fn u: slope(b)(u)(fn s: s * s))", "2304*x^8"),
        ]
        for text, want in rows:
            self.assertEqual(mean(text), want, text)


class TestIntegrals(Case):
    def test_integrals(self):
        rows = [
            ("integral(x, y, f)", "-f[-1](x) + f[-1](y)"), ("integral(0, x, f)", "f[-1](x)"), ("integral(x, 0, f)", "-f[-1](x)"),
            ("integral(x, x, f)", "0"), ("integral(x, y, f) + integral(y, x, f)", "0"), ("integral(-x, x, h)", "0"),
            ("integral(x, y, f) + integral(y, 1, f) - integral(x, 1, f)", "0"), ("integral(0, 2, p)", "2*p.0 + 2*p.1 + 8/3*p.2"),
            ("f(integral(0, f(x), f))", "f(f[-1](f(x)))"), ("(fn t: integral(t, 1, f))(x)", "f[-1](1) - f[-1](x)"),
        ]
        for text, want in rows:
            self.assertEqual(mean(text), want)


class TestFacts(Case):
    def test_equal_programs(self):
        world = World(["x", "y"], {
            "f": Unseen(mirror="even", centre=1), "g": Unseen(2, swap="minus"), "h": Unseen(mirror="odd", centre=Ratio(1, 2)),
            "p": Unseen(degree=2),
        })
        rows = [
            ("f(x + 1)", "f(1 - x)"), ("f[1](x)", "-f[1](2 - x)"), ("f[1](1)", "0"), ("integral(0, 2, f)", "2 * integral(1, 2, f)"),
            ("g(x, y) + g(y, x)", "0"), ("g(x, x)", "0"), ("g[1,1](x, x)", "0"), ("g[1,0](x, y)", "-g[0,1](y, x)"),
            ("slope(fn t: g(t, y))(x)", "-slope(fn t: g(y, t))(x)"), ("h(x)", "-h(1 - x)"), ("h(1/2)", "0"), ("integral(0, 1, h)", "0"),
            ("slope(h)(x)", "slope(h)(1 - x)"), ("slope(fn t: f(2 - t))(x)", "slope(f)(x)"), ("slope(slope(slope(p)))(x)", "0"),
            ("p(x + 1) - 2 * p(x) + p(x - 1)", "slope(slope(p))(y)"), ("6 * integral(-1, 1, p)", "2 * p(-1) + 8 * p(0) + 2 * p(1)"),
            ("f(f(x))", "f(f(2 - x))"), ("g(f(x), y)", "-g(y, f(2 - x))"), ("slope(fn t: g(t, t + 0 * y))(x)", "0"),
        ]
        for one, other in rows:
            self.assertEqual(meaning(Program(world, one)), meaning(Program(world, other)), one)
            self.assertEqual(meaning(Program(world, one)).text, meaning(Program(world, other)).text)

    def test_unlike_programs(self):
        rows = [
            ("f(x)", "f(-x)"), ("f(x)", "h(x)"), ("g(x, y)", "g(y, x)"), ("f(x)", "f[1](x)"), ("integral(0, x, f)", "x * f(x)"),
            ("p(x)", "p(-x)"), ("h(x)", "h(-x)"), ("slope(p)(x)", "0"), ("f(0)", "0"),
        ]
        for one, other in rows:
            self.assertNotEqual(meaning(Program(WORLD, one)), meaning(Program(WORLD, other)), one)


class TestDepth(Case):
    def test_functions_that_call_one_another_many_times(self):
        text = (
            "let a = fn @q: fn t: q(t) + 1; let b = fn @q: fn t: a(a(a(a(a(a(a(a(a(q)))))))))(t); "
            "let c = fn @q: fn t: b(b(b(b(b(b(b(b(b(q)))))))))(t); let d = fn @q: fn t: c(c(c(c(c(c(q))))))(t); d(f)(x)"
        )
        self.assertEqual(mean(text), "486 + f(x)")
        self.assertEqual(mean(text.replace("d(f)(x)", "slope(d(f))(x)")), "f[1](x)")

    def test_functions_within_one_another_many_times(self):
        text = (
            "let a = fn t: f(f(f(f(f(t))))); let b = fn t: a(a(a(a(a(t))))); let c = fn t: b(b(b(b(b(t))))); "
            "let d = fn t: c(c(c(t))); d(x)"
        )
        self.assertEqual(mean(text), "f(" * 375 + "x" + ")" * 375)
        self.assertEqual(mean(text.replace("d(x)", "slope(d)(x)")).count("f[1]"), 375)


if __name__ == "__main__":
    unittest.main()
