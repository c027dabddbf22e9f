"""Rules for naming tags, and the machine of tagged numbers ([11])."""

import random
import unittest
from fractions import Fraction

from bridge import program_with, random_program, random_world
from helpers import ANY_VALUES, Case
from oracle import FormText, Maker, Taker, Witness
from slopy import ShiftMaker, SlopeMaker, app, lam, plus, times, var
from unseenslopes.errors import InvalidName
from unseenslopes.forms import Form
from unseenslopes.meaning import meaning
from unseenslopes.programs import Program
from unseenslopes.tagged import Rule, machine_form
from unseenslopes.unseen import Unseen, World

NAMES = ["one kept", "one renewed", "site kept", "site renewed", "depth kept", "depth renewed", "new kept", "new renewed"]
WORLD = World(["x", "y"], {"f": Unseen(), "g": Unseen(2), "h": Unseen(mirror="odd"), "c": Unseen(degree=2)})


def wrong(text, world=WORLD):
    """The dict of the answers that are not the meaning, by the rules that give them."""
    program = Program(world, text)
    answers = {str(rule): machine_form(program, rule) for rule in Rule.every()}
    return {rule: str(form) for rule, form in answers.items() if form != meaning(program)}


class TestRule(Case):
    def test_defaults(self):
        rule = Rule()
        self.assertEqual((rule.naming, rule.renewed), ("new", True))
        self.assertEqual((Rule("one").naming, Rule("one").renewed), ("one", True))
        self.assertEqual((Rule(naming="site", renewed=False).naming, Rule("site", renewed=False).renewed), ("site", False))
        with self.assertRaises(TypeError):
            Rule("one", False)

    def test_invalid_names(self):
        for value in [*ANY_VALUES, "One", "new ", "kept", "tag", ["one"], ("new",), "onesite"]:
            self.assert_fails(InvalidName(value), Rule, value)
            self.assert_fails(InvalidName(value), Rule, value, renewed=False)

    def test_every(self):
        rules = Rule.every()
        self.assertEqual([str(rule) for rule in rules], NAMES)
        self.assertEqual([(rule.naming, rule.renewed) for rule in rules[:3]], [("one", False), ("one", True), ("site", False)])
        self.assertIsNot(Rule.every(), rules)
        self.assertIsInstance(rules, list)

    def test_texts(self):
        self.assertEqual([repr(rule) for rule in Rule.every()], [f"Rule({name})" for name in NAMES])
        self.assertEqual((str(Rule()), repr(Rule("depth", renewed=False))), ("new renewed", "Rule(depth kept)"))

    def test_equality(self):
        rules = Rule.every()
        for i, one in enumerate(rules):
            for j, other in enumerate(Rule.every()):
                self.assertIs(one == other, i == j)
                self.assertIs(one != other, i != j)
            for value in [*ANY_VALUES, str(one), repr(one), WORLD]:
                self.assertFalse(one == value)
                self.assertFalse(value == one)
                self.assertTrue(one != value)
                self.assertTrue(value != one)


class TestKnownAnswers(Case):
    def test_without_slopes_or_with_one(self):
        for text in [
            "0", "x", "-x * y + 2/3", "f(x) * g(x, f[2](y))", "integral(x, y, f)", "slope(f)(x)", "slope(fn t: t * f(t * t))(x)",
            "slope(fn t: g(t, t * y))(x)", "slope(fn t: integral(t, t * t, f))(x)", "slope(c)(x) + slope(h)(-y)", "?1 * slope(f)(x) + ?3",
            "slope(fn t: fn s: s * t * t)(x)(y)", "slope(fn t: fn @q: q(t) * q(y))(x)(f)", "let a = slope(h); a(a(x))",
            "slope(fn t: h(t) + h(-t))(0)", "slope(fn t: fn s: fn r: g(t * s, r))(x)(y)(2)",
        ]:
            self.assertEqual(wrong(text), {}, text)
        form = machine_form(rule=Rule(), program=Program(WORLD, "?1 * slope(f)(x)"))
        self.assertIsInstance(form, Form)
        self.assertEqual(str(form), "?1*f[1](x)")

    def test_slopes_within_slopes(self):
        one = {"one kept": "2", "one renewed": "2"}
        self.assertEqual(wrong("slope(fn a: a * slope(fn b: a + b)(1))(x)"), one)
        self.assertEqual(wrong("slope(fn a: a * slope(fn b: a + b)(1))(x)", World(["x"], {"f": Unseen()})), one)
        both = {"one kept": "0", "one renewed": "0"}
        self.assertEqual(wrong("slope(slope(f))(x)"), both)
        self.assertEqual(wrong("slope(fn a: slope(fn b: f(a * b))(y))(x)"), both)

    def test_a_slope_through_a_let(self):
        every = {f"{naming} {word}": "2" for naming in ("one", "site") for word in ("kept", "renewed")}
        for text in ["fn @p: fn t: slope(p)(t)", "fn @p: slope(p)"]:
            self.assertEqual(wrong(f"let d = {text}; d(fn a: a * d(fn b: a + b)(1))(x)"), every)
        self.assertEqual(wrong("let d = fn @p: slope(p); d(f)(x) + d(h)(d(f)(y))"), {})

    def test_a_shift_within_itself(self):
        kept = ["one kept", "one renewed", "site kept", "site renewed", "depth kept"]
        shift = "slope(fn u: fn @p: fn t: p(t + u))"
        self.assertEqual(wrong(f"let s = {shift}(0); s(s(f))(x)"), {rule: "0" for rule in [*kept, "new kept"]})
        self.assertEqual(wrong(f"let s = {shift}; s(0)(s(0)(f))(x)"), {rule: "0" for rule in kept})
        self.assertEqual(wrong(f"{shift}(0)({shift}(0)(f))(x)"), {rule: "0" for rule in ["one kept", "one renewed", "depth kept"]})
        self.assertEqual(wrong(f"let s = {shift}(y); s(f)(x)"), {})

    def test_a_function_that_is_handed_to_itself(self):
        text = "let q = slope(fn a: fn @p: p(a) * a)(x); q(fn t: q(fn s: s * t))"
        self.assertEqual(str(meaning(Program(WORLD, text))), "4*x^2")
        rules = [rule for rule in NAMES if rule not in ("depth renewed", "new renewed")]
        self.assertEqual(wrong(text), {rule: "3*x^2" for rule in rules})

    def test_slopes_of_functions_that_return_functions(self):
        self.assertEqual(wrong("slope(slope(fn a: fn b: a * b * f(a))(x))(y)"), {rule: "0" for rule in ("one kept", "one renewed", "depth kept")})
        self.assertEqual(wrong("slope(fn a: slope(fn u: fn t: f(t * u))(y)(a))(x)"), {"one kept": "0", "one renewed": "0"})

    def test_a_tag_twice(self):
        """The places of the arguments bear the same tag that is taken there."""
        self.assertEqual(wrong("slope(fn a: slope(fn b: b * b)(a))(x)"), {"one kept": "0", "one renewed": "0"})
        mixed = "f[1](x^2) + 2*f[1](x^2)*x"
        self.assertEqual(wrong("slope(fn a: slope(fn b: f(b))(a * a) * a)(x)"), {"one kept": mixed, "one renewed": mixed})

    def test_programs_that_were_filled_and_renamed(self):
        program = Program(WORLD, "?1 * slope(fn a: a * slope(fn b: a + b)(1))(x) + f(y)").filled([-3])
        self.assertEqual([str(machine_form(program, Rule(naming))) for naming in ("one", "site")], ["-6 + f(y)", "-3 + f(y)"])
        program = program.renamed({"f": "h"})
        self.assertEqual(str(machine_form(program, Rule("one", renewed=False))), "-6 - h(-y)")

    def test_deep_applications(self):
        lets = "let a = fn @q: fn t: q(q(q(q(t)))); let b = fn @q: a(a(a(a(a(q)))));"
        program = Program(WORLD, f"{lets} b(fn t: t + x)(0)")
        for rule in (Rule("one"), Rule()):
            self.assertEqual(str(machine_form(program, rule)), "1024*x")
        program = Program(WORLD, "let d = fn @q: slope(q); d(d(d(d(d(d(d(d(fn t: f(t) * t))))))))(x)")
        self.assertEqual(str(machine_form(program, Rule())), "8*f[7](x) + f[8](x)*x")


class TestAgainstTheReckoning(Case):
    """All eight rules at random programs: the forms are worth what tagged numbers, reckoned apart, answer."""

    def check(self, world, made, program, source):
        witness = Witness(world, source)
        form = meaning(program)
        differing = []
        for rule in Rule.every():
            answer = machine_form(program, rule)
            witness.taker = Taker(rule.naming, rule.renewed)
            self.assertEqual(made.run(witness).worth, FormText(answer.text, witness).answer(), (str(rule), made.text))
            if answer != form:
                differing.append(str(rule))
        self.assertNotIn("new renewed", differing)
        return differing

    def test_programs_of_all_kinds(self):
        source = random.Random(11)
        for _ in range(120):
            world = random_world(source)
            made, program = random_program(world, source)
            self.check(world, made, program, source)

    def test_slopes_within_slopes(self):
        source = random.Random(12)
        found = set()
        for _ in range(250):
            world = random_world(source)
            made, program = random_program(world, source, maker=SlopeMaker, depth=5)
            found.update(self.check(world, made, program, source))
        self.assertIn("one kept", found)
        self.assertIn("depth kept", found)

    def test_slopes_of_numbers_alone_need_depth_or_new(self):
        """Each slope is taken of a function from numbers to numbers: depth and new are right."""
        source = random.Random(13)
        found = set()
        for _ in range(150):
            world = random_world(source)
            making = NumberSlopes(world, source)
            lets = [(name, made, kind) for name, made, kind in making.lets() if name in ("da", "db")]
            made, program = program_with(world, source, making, lets)
            found.update(self.check(world, made, program, source))
        self.assertEqual(found, {"one kept", "one renewed", "site kept", "site renewed"})

    def test_shifts(self):
        source = random.Random(14)
        found = set()
        for _ in range(250):
            world = random_world(source)
            making = ShiftMaker(world, source)
            made, program = program_with(world, source, making, making.lets())
            found.update(self.check(world, made, program, source))
        self.assertLessEqual({rule for rule in NAMES if rule not in ("depth renewed", "new renewed")}, found)


class NumberSlopes(ShiftMaker):
    """Takes slopes of functions from numbers to numbers alone."""

    def make(self, kind, scope, depth):
        if kind == "" or kind == "x":
            return ShiftMaker.make(self, kind, scope, depth)
        known = [name for name, found in scope.items() if found == kind]
        if known and self.random.random() < 0.5:
            return self.known(self.random.choice(known))
        return self.function(kind, scope, max(depth, 1))

    def slope_at(self, scope, depth):
        return app(self.sloped(self.function("x", scope, depth)), self.make("", scope, depth - 2))


class TestReckoning(unittest.TestCase):
    def test_slopes_that_are_mixed_up_by_a_tag(self):
        """The reckoning apart is itself right about an example of the document."""
        source = random.Random(1)
        maker = Maker(WORLD, source)
        one = maker.leaf()
        inner = app(maker.sloped(lam("b", plus(var("a"), var("b")))), one)
        program = app(maker.sloped(lam("a", times(var("a"), inner))), one)
        witness = Witness(WORLD, source)
        self.assertEqual(program.run(witness, {}).worth, 1)
        witness.taker = Taker("one", False)
        self.assertEqual(program.run(witness, {}).worth, Fraction(2))


if __name__ == "__main__":
    unittest.main()
