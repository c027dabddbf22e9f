"""Programs that become slot code ([18], trace)."""

import random
import unittest

import codey
import oracle
from bridge import fraction, package_witness, program_with, random_program, random_world
from helpers import Case
from slopy import ShiftMaker, SlopeMaker
from unseenslopes.codes import Code
from unseenslopes.errors import InvalidBlank
from unseenslopes.meaning import meaning
from unseenslopes.places import witness_for
from unseenslopes.programs import Program
from unseenslopes.ratios import Ratio
from unseenslopes.tracing import trace
from unseenslopes.unseen import Unseen, World

WORLD = World(["x", "y"], {"f": Unseen(), "e": Unseen(mirror="odd", centre=Ratio(1, 2)), "p": Unseen(degree=3), "g": Unseen(2, swap="minus")})
FIXED = oracle.Witness(WORLD, random.Random(1))


class TestTrace(Case):
    def check(self, program, drawn):
        code = trace(program)
        self.assertIs(type(code), Code)
        self.assertEqual(code.world, program.world)
        self.assertEqual(len(code.answer_slots()), 1)
        codey.assert_straight(self, code)
        self.assertEqual(code.forms(), [meaning(program)], program.text)
        witness = package_witness(program.world, drawn)
        self.assertEqual(code.numbers(witness), [witness.answer(program)])
        self.assertEqual(codey.worths(code, drawn), [fraction(witness.answer(program))])
        return code

    def test_programs(self):
        texts = [
            "0", "3/4", "x", "-x", "x - x", "x + y", "x * x * x * x * x", "(x + y) * (x + y) * (x - y)", "f(x)", "-2/3 * f(2 * x - 1)", "f(f(f(x)))",
            "slope(fn t: f(t) * t)(x)", "slope(fn a: a * slope(fn b: a + b)(1))(x)", "slope(slope(fn t: f(t * t)))(y)", "f[4](x) * f[1](y)",
            "slope(fn a: fn b: f(a * b))(x)(y)", "slope(fn a: slope(fn b: fn c: a * b * f(c + a)))(x)(y)(2)", "slope(fn a: fn @q: q(a))(x)(f)",
            "let d = fn @q: slope(q); let s = d(f); s(x) * d(s)(y)", "let a = x * y; let b = a * a; b * b + a", "integral(x, y, f)",
            "integral(0, f(x), e) * integral(1/2, x, e)", "slope(fn t: integral(y, t * t, f))(x)", "e(x) + e(1 - x)", "e(x) - e(1 - x) * 3", "e[2](x) * e[1](y)",
            "p(x)", "p(x) * p(y)", "p[1](f(x)) - p[2](1)", "integral(x, y, p)", "p(p(x))", "f(p[3](x))", "p[4](x)", "g(x, y)", "g(y, x) + g(x, 2)", "g(x, x)",
            "g[1,2](f(y), x)", "slope(fn t: g(t, t * y))(x)", "slope(slope(fn t: g(f(t), t)))(x)", "x * f(x) + y * f(x) + x * y * f(x) * f(x)",
            "f(x + y + 1) * f(1 + y + x)", "(fn @q: q(q(x)))(fn t: t * t + y)", "f(0)", "f(-1/2)", "7 * f(1) * f(1)",
        ]
        for text in texts:
            self.check(Program(WORLD, text), FIXED)
        self.check(Program(World([], {}), "1/3 + 1"), oracle.Witness(World([], {}), random.Random(2)))
        self.assertEqual(trace(program=Program(WORLD, "x")), trace(Program(WORLD, "x")))

    def test_drawn_programs(self):
        source = random.Random(71)
        for _ in range(160):
            world = random_world(source)
            _, program = random_program(world, source, depth=3)
            if len(meaning(program).terms()) < 200:
                self.check(program, oracle.Witness(world, source))

    def test_drawn_programs_with_slopes_of_functions_that_answer_functions(self):
        source = random.Random(72)
        for _ in range(60):
            world = random_world(source)
            _, program = random_program(world, source, SlopeMaker, depth=3)
            if len(meaning(program).terms()) < 200:
                self.check(program, oracle.Witness(world, source))
        for _ in range(20):
            world = random_world(source)
            making = ShiftMaker(world, source)
            _, program = program_with(world, source, making, making.lets())
            if len(meaning(program).terms()) < 100:
                self.check(program, oracle.Witness(world, source))

    def test_many_slopes(self):
        program = Program(WORLD, "slope(slope(slope(slope(f[4]))))(x)")
        code = self.check(program, FIXED)
        self.assertEqual(str(code), "0 = in x; 1 = one f 8 0; answer 1")
        self.assertEqual(str(meaning(program)), "f[8](x)")

    def test_witnesses_that_are_made(self):
        program = Program(WORLD, "f(f(x)) - e(x) * g(x, y)")
        witness = witness_for(WORLD, meaning(program))
        self.assertEqual(trace(program).numbers(witness), [witness.answer(program)])

    def test_large_forms(self):
        code = self.check(Program(WORLD, "(x + y + 1)" + " * (x + y + 1)" * 16), FIXED)
        self.assertEqual(len(meaning(Program(WORLD, "(x + y + 1)" + " * (x + y + 1)" * 16)).terms()), 171)
        self.assertLess(len(code), 1000)

    def test_blanks(self):
        self.assert_fails(InvalidBlank(0), trace, Program(WORLD, "?1"))
        self.assert_fails(InvalidBlank(7), trace, Program(WORLD, "f(x) * ?2 - ?1"))
        self.assert_fails(InvalidBlank(18), trace, Program(WORLD, "let a=f;a(x)+?1"))
        self.check(Program(WORLD, "?1 * f(x)").filled([3]), FIXED)

    def test_the_program_stays(self):
        program = Program(WORLD, "f(x) * f(y)")
        trace(program)
        self.assertEqual((program.text, str(meaning(program))), ("f(x) * f(y)", "f(x)*f(y)"))

    def test_filled_and_renamed_programs(self):
        world = World(["x"], {"f": Unseen(), "abcdef": Unseen()})
        program = Program(world, "?1 * f(x)" + "+f(x)" * 110).filled([-(10 ** 29)]).renamed({"f": "abcdef"})
        self.assertGreater(len(program.text), 600)
        self.check(program, oracle.Witness(world, random.Random(3)))


if __name__ == "__main__":
    unittest.main()
