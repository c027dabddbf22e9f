"""Rules for naming tags, held against programs ([11]): try_rule, right_rules and Trial."""

import random
import unittest

from bridge import fraction, oracle_witness, program_with, random_program, random_world
from helpers import ANY_VALUES, Case
from oracle import Taker
from slopy import ShiftMaker, SlopeMaker
from unseenslopes.curves import Curve, Sheet
from unseenslopes.errors import InvalidBlank
from unseenslopes.meaning import meaning
from unseenslopes.programs import Program
from unseenslopes.ratios import Ratio
from unseenslopes.rules import Trial, right_rules, try_rule
from unseenslopes.tagged import Rule, machine_form
from unseenslopes.unseen import Unseen, World
from unseenslopes.witnesses import Witness

EVERY = [str(rule) for rule in Rule.every()]
WORLD = World(["x", "y"], {"f": Unseen(), "g": Unseen(2), "h": Unseen(mirror="odd", centre=1)})
NESTED = "slope(fn a: a * slope(fn b: a + b)(1))(x)"
NAMED = "let d = fn @p: fn t: slope(p)(t); d(fn a: a * d(fn b: a + b)(1))(x)"
SHIFT = "let s = slope(fn u: fn @p: fn t: p(t + u))(0); s(s(f))(x)"


def made(text, world=WORLD):
    return Program(world, text)


def witness(x=2, f=(1, 0, 3)):
    functions = {"f": Curve(f), "g": Sheet([(1, 2, 1)]), "h": Curve([-1, 1])}
    return Witness(WORLD, inputs={"x": x, "y": 5}, functions=functions)


class TestRightRules(Case):
    def test_example(self):
        program = made(NESTED, World(["x"], {"f": Unseen()}))
        found = ["site kept", "site renewed", "depth kept", "depth renewed", "new kept", "new renewed"]
        self.assertEqual(right_rules(program), found)

    def test_known_programs(self):
        for text, found in [
            (NAMED, EVERY[4:]), (SHIFT, ["depth renewed", "new renewed"]), (NESTED, EVERY[2:]), ("x", EVERY), ("slope(f)(x)", EVERY),
            ("slope(slope(f))(x)", EVERY[2:]), ("let s = slope(fn u: fn @p: fn t: p(t + u)); s(0)(s(0)(f))(x)", ["depth renewed", "new kept", "new renewed"]),
            ("slope(slope(fn a: fn b: a * b * f(a))(x))(y)", ["site kept", "site renewed", "depth renewed", "new kept", "new renewed"]),
            ("let q = slope(fn a: fn @p: p(a) * a)(x); q(fn t: q(fn s: s * t))", ["depth renewed", "new renewed"]),
            ("slope(fn a: fn b: a * b * a)(x)(y)", EVERY), ("slope(fn t: slope(fn s: g(s, s))(t))(x)", EVERY[2:]),
        ]:
            program = made(text)
            self.assertEqual(right_rules(program), found, text)
            self.assertEqual(right_rules(program=program), found)
            self.assertIsNot(right_rules(program), right_rules(program))

    def test_blanks(self):
        for text, at in [("?1", 0), ("x + ?2 - ?1", 4), ("f(x) * (?3 + x)", 8)]:
            self.assert_fails(InvalidBlank(at), right_rules, made(text))
            for rule in Rule.every():
                self.assert_fails(InvalidBlank(at), try_rule, made(text), rule)
        self.assertEqual(right_rules(made("?1 + x").filled([3])), EVERY)


class TestTrial(Case):
    def test_parts(self):
        program, rule = made(NESTED), Rule("one", renewed=False)
        trial = Trial(program, rule)
        self.assertEqual((trial.program, trial.rule, trial.witness), (program, rule, None))
        self.assertIs(trial.is_right, True)
        self.assertIs(bool(trial), True)
        wrong = Trial(witness=witness(), rule=rule, program=program)
        self.assertEqual((wrong.program, wrong.rule, wrong.witness), (program, rule, witness()))
        self.assertIs(wrong.is_right, False)
        self.assertIs(bool(wrong), False)
        self.assertEqual([repr(trial), repr(wrong)], ["Trial(one kept: right)", "Trial(one kept: wrong)"])
        self.assertEqual(repr(Trial(program, Rule(), 0)), "Trial(new renewed: wrong)")

    def test_answers(self):
        for text, answers in [(NESTED, (1, 2)), (SHIFT, (6, 0)), ("f(x)", (13, 13)), ("slope(slope(f))(x) + y", (11, 5))]:
            found = Trial(made(text), Rule("one", renewed=False), witness()).answers()
            self.assertEqual(found, answers)
            self.assertIsInstance(found, tuple)
            self.assertTrue(all(isinstance(answer, Ratio) for answer in found))
            self.assertEqual(Trial(made(text), Rule(), witness()).answers(), (answers[0], answers[0]))
        self.assertEqual(Trial(made(SHIFT), Rule("new", renewed=False), witness(f=(0, 0, 0, 1))).answers(), (12, 0))

    def test_holds_without_a_witness(self):
        for text in (NESTED, NAMED, SHIFT, "slope(f)(x)"):
            program = made(text)
            for rule in Rule.every():
                self.assertIs(Trial(program, rule).holds(), str(rule) in right_rules(program))
                self.assertIs(Trial(program, rule, None).is_right, True)

    def test_holds_with_a_witness(self):
        for rule in Rule.every():
            self.assertIs(Trial(made(NESTED), rule, witness()).holds(), rule.naming == "one")
            self.assertIs(Trial(made(NAMED), rule, witness()).holds(), rule.naming in ("one", "site"))
            self.assertIs(Trial(made(SHIFT), rule, witness()).holds(), str(rule) not in ("depth renewed", "new renewed"))
            self.assertIs(Trial(made(SHIFT), rule, witness(f=(4, 1))).holds(), False)
            self.assertIs(Trial(made("f(x)"), rule, witness()).holds(), False)

    def test_strange_witnesses(self):
        alien = Witness(World(["x"], {}), inputs={"x": 1}, functions={})
        for value in [value for value in ANY_VALUES if value is not None] + [alien, Curve([1]), WORLD, Ratio(1), Rule()]:
            for rule in (Rule("one"), Rule()):
                trial = Trial(made(NESTED), rule, value)
                self.assertIs(trial.witness, value)
                self.assertIs(trial.is_right, False)
                self.assertIs(trial.holds(), False)


class TestTryRule(Case):
    def check(self, program, rule):
        trial = try_rule(program, rule)
        self.assertIs(type(trial), Trial)
        self.assertEqual((trial.program, trial.rule), (program, rule))
        right = machine_form(program, rule) == meaning(program)
        self.assertIs(trial.is_right, right)
        self.assertIs(bool(trial), right)
        self.assertIs(trial.holds(), True)
        self.assertEqual(repr(trial), f"Trial({rule}: {'right' if right else 'wrong'})")
        self.assertIs(trial.witness is None, right)
        if not right:
            self.assertEqual(trial.witness.world, program.world)
            answers = trial.answers()
            self.assertNotEqual(*answers)
            self.assertEqual(answers[0], trial.witness.answer(program))
            self.assertEqual(answers[1], trial.witness.worth(machine_form(program, rule)))
        return trial

    def test_known_programs(self):
        for text in (NESTED, NAMED, SHIFT, "x", "slope(slope(h))(x)", "slope(fn a: slope(fn b: g(a, b))(a))(x)", "slope(slope(slope(f)))(x)"):
            found = [str(rule) for rule in Rule.every() if self.check(made(text), rule)]
            self.assertEqual(found, right_rules(made(text)))
        trial = try_rule(rule=Rule("one"), program=made(NESTED))
        self.assertEqual(trial.answers(), (1, 2))

    def test_programs_beyond_the_limits_of_texts(self):
        text = "+".join(["?1*slope(slope(f))(x)"] * 26)
        program = made(text).filled([Ratio(-1, 3)])
        self.assertGreater(len(program.text), 600)
        self.assertEqual(right_rules(program), EVERY[2:])
        for rule in Rule.every():
            self.check(program, rule)

    def test_random_programs(self):
        source = random.Random(51)
        for _ in range(60):
            world = random_world(source)
            drawn, program = random_program(world, source, maker=SlopeMaker)
            self.check_all(drawn, program, source)
        wrong = 0
        for _ in range(80):
            world = random_world(source)
            making = ShiftMaker(world, source)
            drawn, program = program_with(world, source, making, making.lets())
            wrong += self.check_all(drawn, program, source)
        self.assertGreater(wrong, 30)

    def check_all(self, drawn, program, source):
        """How many rules are wrong; their answers agree with those of the tagged numbers reckoned apart."""
        wrong = 0
        for rule in Rule.every():
            trial = self.check(program, rule)
            if not trial:
                found = oracle_witness(trial.witness, source)
                answers = [drawn.run(found).worth]
                found.taker = Taker(rule.naming, rule.renewed)
                answers.append(drawn.run(found).worth)
                self.assertEqual(answers, [fraction(answer) for answer in trial.answers()])
                wrong += 1
        return wrong


if __name__ == "__main__":
    unittest.main()
