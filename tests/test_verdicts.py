"""Verdicts: programs that are alike or apart, also up to a power of an input ([13], [14])."""

import random
import unittest
from fractions import Fraction

import oracle
from bridge import fraction, oracle_witness, random_program, random_world
from helpers import ANY_VALUES, Case
from slopy import SlopeMaker
from unseenslopes.curves import Curve, Sheet
from unseenslopes.errors import InvalidBlank, InvalidNumber, UnknownName, UnlikeWorlds
from unseenslopes.meaning import meaning
from unseenslopes.programs import Program
from unseenslopes.ratios import Ratio
from unseenslopes.unseen import Unseen, World
from unseenslopes.verdicts import Alike, Apart, Verdict, compare, compare_near, order_of
from unseenslopes.witnesses import Witness

WORLD = World(["x", "y", "h"], {
    "f": Unseen(), "e": Unseen(mirror="even", centre=1), "p": Unseen(degree=2), "g": Unseen(2, swap="same"),
})
OTHER = World(["x", "y", "h"], {"f": Unseen(), "e": Unseen(mirror="even"), "p": Unseen(degree=2), "g": Unseen(2, swap="same")})
NO_INPUTS = [value for value in ANY_VALUES if value != "x"] + ["f", "g", "z", ["h"], ("x",), Ratio(1)]
NO_POWERS = [value for value in ANY_VALUES if value is True or not (isinstance(value, int) and 1 <= value <= 6)] + [7, 0, -1, Ratio(2), False]


def made(text, world=WORLD):
    return Program(world, text)


def witness(x=2, y=3, h=0, f=(1, 0, 1), p=(0, 1)):
    functions = {"f": Curve(f), "e": Curve([0, -2, 1]), "p": Curve(p), "g": Sheet([(1, 1, 2)])}
    return Witness(WORLD, inputs={"x": x, "y": y, "h": h}, functions=functions)


class VerdictsCase(Case):
    def assert_alike(self, one, other, **near):
        verdict = compare_near(one, other, **near) if near else compare(one, other)
        self.assertIs(type(verdict), Alike, (one, other))
        self.assertIs(bool(verdict), True)
        self.assertEqual((verdict.KIND, verdict.name, verdict.power), ("alike", near.get("name"), near.get("power")))
        self.check(verdict, one, other)

    def assert_apart(self, one, other, **near):
        verdict = compare_near(one, other, **near) if near else compare(one, other)
        self.assertIs(type(verdict), Apart, (one, other))
        self.assertIs(bool(verdict), False)
        self.assertEqual((verdict.KIND, verdict.name, verdict.power), ("apart", near.get("name"), near.get("power")))
        self.check(verdict, one, other)
        left, right = verdict.answers()
        self.assertNotEqual(left, right)
        self.assertIsInstance(verdict.witness, Witness)
        self.assertEqual(verdict.witness.world, one.world)
        if near:
            self.assertEqual(verdict.witness.number_of(near["name"]), 0)
            given = (near["name"], verdict.order)
            self.assertEqual(left, verdict.witness.slope_answer(one, *given))
            self.assertEqual(right, verdict.witness.slope_answer(other, *given))
            self.assertEqual(order_of(one, other, name=near["name"]), verdict.order)
            self.assertLess(verdict.order, near["power"])
        else:
            self.assertEqual(verdict.order, 0)
            self.assertEqual((left, right), (verdict.witness.answer(one), verdict.witness.answer(other)))
        return verdict

    def check(self, verdict, one, other):
        self.assertIsInstance(verdict, Verdict)
        self.assertIs(verdict.holds(), True)
        self.assertEqual((verdict.one, verdict.other), (one, other))


class TestCompare(VerdictsCase):
    def test_example(self):
        world = World(["x"], {"f": Unseen(), "g": Unseen(2, swap="same")})
        rows = [("g(x, f(x))", "g(f(x), x)", True), ("f(f(x))", "f(x)", False)]
        for one, other, alike in rows:
            self.assertIs(bool(compare(made(one, world), made(other, world))), alike)

    def test_rewritten_programs(self):
        for one, other in [
            ("f(x) * (y + f(y))", "f(x) * y + f(y) * f(x)"), ("(x + y) * (x - y)", "x * x - y * y"), ("f(x + y)", "f(y + x)"),
            ("slope(fn t: f(t) * t)(x)", "slope(f)(x) * x + f(x)"), ("slope(fn t: f(t) * f(t * t))(x)", "f[1](x) * f(x * x) + 2 * x * f(x) * f[1](x * x)"),
            ("slope(fn t: f(f(t)))(x)", "f[1](f(x)) * f[1](x)"), ("slope(fn t: g(t, t * y))(x)", "g[1,0](x, x * y) + y * g[0,1](x, x * y)"),
            ("slope(fn t: integral(y, t, f))(x)", "f(x)"), ("slope(fn t: integral(t, t * t, f))(x)", "2 * x * f(x * x) - f(x)"),
            ("integral(x, y, f) + integral(y, h, f)", "integral(x, h, f)"), ("integral(x, y, f)", "-integral(y, x, f)"),
            ("e(x)", "e(2 - x)"), ("slope(e)(x)", "-slope(e)(2 - x)"), ("integral(0, 2, e)", "2 * integral(1, 2, e)"),
            ("g(x, f(y))", "g(f(y), x)"), ("g[2,1](x, y)", "g[1,2](y, x)"), ("slope(slope(slope(p)))(x)", "0"),
            ("p(x + 1) - 2 * p(x) + p(x - 1)", "slope(slope(p))(y)"), ("(fn @q: q(q(x)))(fn t: t * t)", "x * x * x * x"),
            ("let d = fn @q: fn t: slope(q)(t); d(fn a: a * d(fn b: a + b)(1))(x)", "1"), ("0 * f(x)", "x - x"), ("4/6", "2/3"),
            ("let s = slope(fn u: fn @q: fn t: q(t + u))(0); s(s(f))(x)", "f[2](x)"), ("slope(fn a: fn b: f(a * b))(x)(y)", "y * f[1](x * y)"),
        ]:
            self.assert_alike(made(one), made(other))
            self.assert_alike(made(other), made(one))
            self.assert_apart(made(f"{one} + 1"), made(other))

    def test_near_programs(self):
        for one, other in [
            ("f(x) * (y + f(y))", "f(x) * y + f(x) * f(x)"), ("slope(fn t: f(t) * t)(x)", "slope(f)(x) * x - f(x)"), ("f(x)", "f(y)"),
            ("slope(fn t: f(f(t)))(x)", "f[1](f(x)) * f[1](y)"), ("f(f(x))", "f(x) * f(x)"), ("f[1](x)", "f[2](x)"), ("e(x)", "e(-x)"),
            ("integral(x, y, f)", "integral(y, x, f)"), ("integral(x, y, e)", "integral(x, y, f)"), ("g(x, y)", "g(x, x)"),
            ("g[1,0](x, y)", "g[0,1](x, y)"), ("slope(slope(p))(x)", "slope(p)(x)"), ("p(x)", "p(-x)"), ("p(x)", "p(x + h) - p(h)"),
            ("slope(fn a: fn b: f(a * b))(x)(y)", "x * f[1](x * y)"), ("x", "y"), ("0", "1"), ("2/3", "667/1000"), ("x * x * x", "x"),
            ("f(x + 2) - 2 * f(x + 1) + f(x)", "0"), ("f(3) - 3 * f(2) + 3 * f(1)", "f(0)"), ("f[4](x) * f[3](y)", "f[3](x) * f[4](y)"),
        ]:
            self.assert_apart(made(one), made(other))
            self.assert_apart(made(other), made(one))

    def test_equal_answers_in_another_world(self):
        for text, other in [("e(x)", "e(2 - x)"), ("p(x) - p(x) * 1", "slope(slope(slope(p)))(x)"), ("g(x, y)", "g(y, x)")]:
            self.assert_alike(made(text), made(other))
        free = World(["x", "y"], {"e": Unseen(), "g": Unseen(2), "p": Unseen()})
        for text, other in [("e(x)", "e(2 - x)"), ("0", "slope(slope(slope(p)))(x)"), ("g(x, y)", "g(y, x)")]:
            self.assert_apart(made(text, free), made(other, free))

    def test_errors(self):
        one, blank, two = made("x"), made("f(x)+?1"), made("?2*x-?1")
        alien, alien_blank = made("x", OTHER), made("x*?1", OTHER)
        for left, right in [(one, alien), (alien, one), (blank, alien), (blank, alien_blank), (one, alien_blank)]:
            self.assert_fails(UnlikeWorlds(), compare, left, right)
        self.assert_fails(InvalidBlank(7), compare, blank, one)
        self.assert_fails(InvalidBlank(7), compare, one, blank)
        self.assert_fails(InvalidBlank(7), compare, blank, two)
        self.assert_fails(InvalidBlank(0), compare, two, blank)
        self.assert_fails(InvalidBlank(7), compare, blank, blank)
        self.assert_apart(one, blank.filled([4]))
        self.assert_fails(InvalidBlank(8), compare, one, made("2 * x - ?1"))
        self.assert_fails(InvalidBlank(8), compare, two.filled([7, 2]), made("2 * x - ?1"))

    def test_keywords(self):
        self.assertIs(type(compare(other=made("x"), one=made("x"))), Alike)

    def test_programs_beyond_the_limits_of_texts(self):
        text = "+".join(["f(x)*x"] * 85)
        program = made(text)
        self.assertGreater(len(program.text), 600)
        self.assert_alike(program, made("85 * x * f(x)"))
        self.assert_apart(program, made("84 * x * f(x)"))
        filled = made("(" * 11 + "-?1*x" + ")" * 11).filled([-5])
        self.assert_alike(filled, made("5 * x"))

    def test_towers_beside_the_difference(self):
        """The witness keeps values short that stand in both programs."""
        tower = "let a = fn t: f(f(f(f(t)))); let b = fn t: a(a(a(a(t)))); b(b(x))"
        self.assert_apart(made(f"{tower} + f[2](y)"), made(f"{tower} - f[2](y)"))
        self.assert_apart(made(f"{tower} + f[2](y) * e(x)"), made(tower))

    def test_random_programs(self):
        source = random.Random(41)
        for _ in range(100):
            world = random_world(source)
            one_made, one = random_program(world, source, depth=3)
            two_made, two = random_program(world, source, depth=3, maker=source.choice([oracle.Maker, SlopeMaker]))
            verdict = compare(one, two)
            self.assertIs(verdict.holds(), True)
            self.assertEqual(bool(verdict), meaning(one) == meaning(two))
            if not verdict:
                found = oracle_witness(verdict.witness, source)
                answers = (one_made.run(found).worth, two_made.run(found).worth)
                self.assertEqual(answers, tuple(map(fraction, verdict.answers())))
                self.assertNotEqual(*answers)
            self.assert_alike(one, made(one.text, world))


class TestVerdicts(VerdictsCase):
    def test_open(self):
        one, other = made("x"), made("y")
        verdict = Verdict(one, other)
        self.assertEqual((verdict.one, verdict.other, verdict.name, verdict.power), (one, other, None, None))
        self.assertEqual((Verdict.KIND, Alike.KIND, Apart.KIND), ("open", "alike", "apart"))
        self.assertIs(verdict.holds(), False)
        self.assertIs(Verdict(one, one).holds(), False)
        self.assertIs(bool(verdict), False)
        self.assertEqual(repr(verdict), "Verdict(open)")
        self.assertEqual(repr(Verdict(one, other, "h", 3)), "Verdict(open up to h^3)")
        near = Verdict(other=other, one=one, power=2, name="y")
        self.assertEqual((near.one, near.other, near.name, near.power), (one, other, "y", 2))
        self.assertTrue(issubclass(Alike, Verdict) and issubclass(Apart, Verdict))
        self.assertFalse(issubclass(Apart, Alike) or issubclass(Alike, Apart))

    def test_texts(self):
        one, other = made("x"), made("y")
        self.assertEqual(repr(compare(one, one)), "Verdict(alike)")
        self.assertEqual(repr(compare(one, other)), "Verdict(apart)")
        self.assertEqual(repr(Alike(one, other, "h", 1)), "Verdict(alike up to h^1)")
        self.assertEqual(repr(Apart(one, other, None, "h", 3)), "Verdict(apart up to h^3)")
        self.assertEqual(repr(compare_near(one, other, name="x", power=6)), "Verdict(apart up to x^6)")

    def test_alike(self):
        one, other, third = made("x + y"), made("y + x"), made("x - y")
        self.assertIs(Alike(one, other).holds(), True)
        self.assertIs(Alike(one, third).holds(), False)
        self.assertIs(bool(Alike(one, third)), True)
        self.assertIs(Alike(one, made("y + x", OTHER)).holds(), False)
        self.assertIs(Alike(one, one, "x", 2).holds(), True)
        self.assertIs(Alike(one, made("x + y", OTHER), "x", 2).holds(), False)
        self.assertIs(Alike(made("f(x)"), made("f(x + h * h)"), name="h", power=2).holds(), True)
        self.assertIs(Alike(made("f(x)"), made("f(x + h * h)"), name="h", power=3).holds(), False)
        verdict = Alike(other=other, one=one)
        self.assertEqual((verdict.one, verdict.other, verdict.name, verdict.power), (one, other, None, None))

    def test_apart(self):
        one, other = made("f(x)"), made("f(-x)")
        verdict = Apart(one, other, witness(f=(1, 1)))
        self.assertEqual((verdict.name, verdict.power, verdict.order), (None, None, 0))
        self.assertEqual((verdict.one, verdict.other, verdict.witness), (one, other, witness(f=(1, 1))))
        self.assertIs(verdict.holds(), True)
        self.assertIs(bool(verdict), False)
        self.assertEqual(verdict.answers(), (3, -1))
        self.assertIsInstance(verdict.answers(), tuple)
        self.assertTrue(all(isinstance(answer, Ratio) for answer in verdict.answers()))
        self.assertIs(Apart(one, other, witness()).holds(), False)
        self.assertEqual(Apart(one, other, witness()).answers(), (5, 5))
        self.assertIs(Apart(one, made("f(x)"), witness(f=(1, 1))).holds(), False)

    def test_strange_witnesses(self):
        one, other = made("f(x)"), made("f(x) + 1")
        alien = Witness(World(["x"], {"f": Unseen()}), inputs={"x": 1}, functions={"f": Curve([1])})
        for value in [*ANY_VALUES, alien, Curve([1]), WORLD, one, Ratio(2)]:
            self.assertIs(Apart(one, other, value).holds(), False)
            self.assertIs(Apart(one, other, value, "h", 2, 0).holds(), False)
            self.assertIs(Apart(one, other, value).witness, value)
        self.assertIs(Apart(one, other, witness()).holds(), True)
        self.assertIs(Apart(one, made("f(x) + 1", OTHER), witness()).holds(), False)
        self.assertIs(Apart(made("f(x) + 1", OTHER), one, witness()).holds(), False)
        self.assertIs(Apart(made("f(x) + 1", OTHER), made("f(x)", OTHER), witness()).holds(), False)

    def test_strange_orders(self):
        one, other = made("f(x + h)"), made("f(x) + h")
        for value in [value for value in ANY_VALUES if value is True or value is False or not isinstance(value, int)] + [-1, 3, 4, -7]:
            verdict = Apart(one, other, witness(), "h", 3, value)
            self.assertIs(verdict.holds(), False)
            self.assertIs(verdict.order, value)
            self.assertIs(Apart(one, made("f(x + h) + 1"), witness(), order=value).holds(), True)
        rows = {0: (5, 5), 1: (4, 1), 2: (2, 0)}
        for order, answers in rows.items():
            verdict = Apart(one, other, witness(), "h", 3, order)
            self.assertEqual(verdict.answers(), answers)
            self.assertIs(verdict.holds(), answers[0] != answers[1])
        self.assertIs(Apart(one, other, witness(), "h", 2, 2).holds(), False)
        self.assertIs(Apart(one, other, witness(), "h", 10, 8).holds(), False)
        self.assertEqual(Apart(one, other, witness(), "h", 10, 8).answers(), (0, 0))

    def test_number_of_the_name(self):
        one, other = made("f(x + h)"), made("f(x) + h")
        self.assertIs(Apart(one, other, witness(h=1), "h", 3, 1).holds(), False)
        self.assertIs(Apart(one, other, witness(h=1)).holds(), True)
        self.assertIs(Apart(one, other, witness(h=0), "x", 3, 1).holds(), False)
        self.assertIs(Apart(one, made("f(y)"), witness(x=0), "x", 3, 2).holds(), True)


class TestNear(VerdictsCase):
    def test_example(self):
        world = World(["x", "h"], {"f": Unseen()})
        one, other = made("f(x + h) - f(x - h)", world), made("2 * h * f[1](x)", world)
        self.assertEqual(order_of(one, other, name="h"), 3)

    def test_orders(self):
        for one, other, order in [
            ("f(x + h) - f(x)", "h * f[1](x)", 2), ("f(x + h) - f(x - h)", "2 * h * f[1](x)", 3), ("f(x + h) - 2 * f(x) + f(x - h)", "h * h * f[2](x)", 4),
            ("h * (1/2 * f(x) + 1/2 * f(x + h))", "integral(x, x + h, f)", 3), ("h * f(x + 1/2 * h)", "integral(x, x + h, f)", 3), ("h * f(x)", "integral(x, x + h, f)", 2),
            ("h * (1/6 * f(x) + 2/3 * f(x + 1/2 * h) + 1/6 * f(x + h))", "integral(x, x + h, f)", 5), ("f(x)", "f(x + h)", 1), ("f(x)", "f(y)", 0),
            ("h", "0", 1), ("h * h * h", "0", 3), ("h * h * h * h * h", "0", 5), ("h * h * h * h * h * h", "0", 6), ("h * h * h * h * h * h * h", "0", 6),
            ("f(h)", "f(0)", 1), ("e(1 + h)", "e(1)", 2), ("g(x + h, x)", "g(x, x - h)", 1), ("g(x + h, x) - g(x, x)", "g(x, x) - g(x - h, x)", 2),
            ("f(h * f(h)) + h", "f(0) + h + f[1](0) * f(0) * h", 2), ("x", "y", 0), ("x", "x", 6), ("slope(fn t: f(t + h))(x)", "f[1](x) + h * f[2](x)", 2),
            ("p(x + h)", "p(x) + h * slope(p)(x)", 2), ("p(x + h)", "p(x) + h * slope(p)(x) + 1/2 * h * h * slope(slope(p))(x)", 6),
            ("p(x + h) - p(x - h)", "2 * h * slope(p)(x)", 6), ("h * p(x + 1/2 * h)", "integral(x, x + h, p)", 3), ("f(h) * h", "h * f(x)", 1),
        ]:
            one, other = made(one), made(other)
            for most in range(1, 7):
                self.assertEqual(order_of(one, other, name="h", most=most), min(order, most), (one, other))
                self.assertEqual(order_of(other, one, most=most, name="h"), min(order, most))
                if most <= order:
                    self.assert_alike(one, other, name="h", power=most)
                else:
                    self.assertEqual(self.assert_apart(one, other, name="h", power=most).order, order)
            self.assertEqual(order_of(one, other, name="h"), min(order, 6))

    def test_programs_that_are_alike_are_alike_up_to_any_power(self):
        one, other = made("slope(fn t: f(t) * t)(x + h)"), made("f(x + h) + (x + h) * f[1](x + h)")
        for name in "xyh":
            self.assert_alike(one, other, name=name, power=6)

    def test_an_input_that_stands_in_many_places(self):
        one = made("f(h * f(h * x)) * g(h, h * h) + slope(fn t: f(t * h))(h)")
        other = made("f(h * f(0)) * g(h, 0) + h * f[1](h * h)")
        self.assertEqual(order_of(one, other, name="h"), 2)
        self.assertEqual(self.assert_apart(one, other, name="h", power=6).order, 2)
        self.assertEqual(order_of(one, other, name="x"), 0)

    def test_errors(self):
        one, blank, alien, alien_blank = made("x"), made("?2 + x"), made("x", OTHER), made("?1", OTHER)
        for value in NO_INPUTS:
            self.assert_fails(UnknownName(value), compare_near, one, one, name=value, power=0)
            self.assert_fails(UnknownName(value), order_of, one, one, name=value, most=0)
            self.assert_fails(UnknownName(value), order_of, one, one, name=value)
            self.assert_fails(UnlikeWorlds(), compare_near, one, alien_blank, name=value, power=0)
            self.assert_fails(InvalidBlank(0), compare_near, one, blank, name=value, power=0)
            self.assert_fails(InvalidBlank(0), order_of, blank, one, name=value, most=0)
        for value in NO_POWERS:
            self.assert_fails(InvalidNumber(value), compare_near, one, one, name="h", power=value)
            self.assert_fails(InvalidNumber(value), order_of, one, one, name="h", most=value)
            self.assert_fails(UnlikeWorlds(), order_of, alien_blank, one, name="h", most=value)
            self.assert_fails(InvalidBlank(0), order_of, blank, blank, name="h", most=value)
        self.assert_fails(UnlikeWorlds(), compare_near, alien, one, name="h", power=2)
        with self.assertRaises(TypeError):
            compare_near(one, one, "h", 3)
        with self.assertRaises(TypeError):
            order_of(one, one, "h")

    def test_random_programs(self):
        """Orders against slopes of answers at random witnesses, which are reckoned apart by tags."""
        source = random.Random(42)
        for _ in range(60):
            world = random_world(source)
            one_made, one = random_program(world, source, depth=3)
            two_made, two = random_program(world, source, depth=2)
            if source.random() < 0.5:
                two_made, two = one_made, Program(world, one.text)
            order = order_of(one, two, name="y", most=4)
            verdict = compare_near(one, two, name="y", power=4)
            self.assertIs(verdict.holds(), True)
            self.assertEqual(bool(verdict), order == 4)
            found = oracle.Witness(world, source) if verdict else oracle_witness(verdict.witness, source)
            found.numbers["y"] = Fraction(0)
            for k in range(min(order + 1, 4)):
                found.moves = {"y": [f"step {step}" for step in range(k)]}
                answers = [self.slope(part, found) for part in (one_made, two_made)]
                self.assertEqual(answers[0] == answers[1], k < order, (one, two, k))

    def slope(self, part, found):
        answer = part.run(found)
        for tag in found.moves["y"]:
            answer = answer.stripped(tag)
        return answer.parts.get(oracle.PLAIN, 0)


if __name__ == "__main__":
    unittest.main()
