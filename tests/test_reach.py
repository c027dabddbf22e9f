"""What answers hang on, what programs read, additive programs, functions exchanged ([16])."""

import random
import re
import unittest
from fractions import Fraction

import oracle
from bridge import random_program, random_world
from helpers import ANY_VALUES, Case
from unseenslopes.errors import InvalidBlank, UnknownName, WrongKind
from unseenslopes.meaning import meaning
from unseenslopes.programs import Program
from unseenslopes.ratios import Ratio
from unseenslopes.reach import can_exchange, hangs_on, is_additive, reads
from unseenslopes.unseen import Unseen, World
from unseenslopes.verdicts import Alike, Apart, compare

WORLD = World(["x", "y"], {"f": Unseen(), "h": Unseen(mirror="odd"), "p": Unseen(degree=2), "g": Unseen(2)})
NO_NAMES = [value for value in ANY_VALUES if value != "x"] + ["z", "fn", ["f"], ("f",), Ratio(1), "f ", "p.1"]


def made(text, world=WORLD):
    return Program(world, text)


class TestHangsOn(Case):
    def test_programs(self):
        rows = [
            ("0", ""), ("3/4", ""), ("x", "x"), ("x - x", ""), ("x - y", "xy"), ("0 * x + y", "y"), ("f(x) - f(x)", ""), ("f(x)", "fx"),
            ("f(1)", "f"), ("f(x) * (y - y)", ""), ("f(f(x))", "fx"), ("f(h(x))", "fhx"), ("f(h(x)) - f(-h(-x))", ""), ("h(0)", ""),
            ("h(x) + h(-x) + y", "y"), ("f(x - x)", "f"), ("slope(fn t: f(y))(x)", ""), ("slope(fn t: f(y) * t)(x)", "fy"),
            ("g(x, y)", "gxy"), ("g(f(x), 1)", "fgx"), ("g[1,1](1, 2)", "g"), ("p(x)", "px"), ("p(0)", "p"), ("p[2](x)", "p"),
            ("p[2](x) - p[2](y)", ""), ("p[3](x)", ""), ("p[1](x) - x * p[2](y)", "p"), ("integral(x, y, f)", "fxy"), ("integral(x, x, f)", ""),
            ("integral(0, x, f)", "fx"), ("(fn @q: q(x))(fn t: y)", "y"), ("let a = f(x); y", "y"), ("f(p[3](x))", "f"), ("f(p(y))", "fpy"),
            ("g(h(f(x)), p(y))", "fghpxy"), ("slope(f)(x) - f[1](x)", ""), ("(x + y) * (x - y) - x * x + y * y", ""),
        ]
        for text, names in rows:
            for name in "fghpxy":
                self.assertIs(hangs_on(made(text), name), name in names, (text, name))
        self.assertIs(hangs_on(program=made("f(x)"), name="f"), True)

    def test_unknown_names_ahead_of_blanks(self):
        for value in NO_NAMES:
            self.assert_fails(UnknownName(value), hangs_on, made("f(x)"), value)
            self.assert_fails(UnknownName(value), hangs_on, made("?1"), value)
        self.assert_fails(InvalidBlank(4), hangs_on, made("x + ?2"), "x")
        self.assert_fails(InvalidBlank(0), hangs_on, made("?1 * f(x) + ?2"), "f")

    def test_drawn_programs(self):
        """Answers differ at some of many pairs of witnesses that differ only there, exactly if they hang on it."""
        source = random.Random(51)
        found = [0, 0]
        for _ in range(150):
            world = random_world(source)
            program, kept = random_program(world, source, depth=3)
            names = [*world.inputs(), *world.functions()]
            name = source.choice(names)
            answer = hangs_on(kept, name)
            found[answer] += 1
            differ = False
            for _ in range(3 if not answer else 12):
                one = oracle.Witness(world, source)
                worth = program.run(one).worth
                self.bend(world, one, name, source)
                differ = differ or program.run(one).worth != worth
            self.assertIs(differ, answer, (program.text, name))
            self.assertEqual(answer, re.search(rf"(?<![a-z]){name}(?![a-z])", meaning(kept).text) is not None)
        self.assertGreater(min(found), 30)

    def bend(self, world, witness, name, source):
        """Other numbers or polynomials for one name."""
        other = oracle.Witness(world, source)
        if name in world.inputs():
            witness.numbers[name] = other.numbers[name] + 11
        else:
            witness.shapes[name] = other.shapes[name]


class TestReads(Case):
    def test_programs(self):
        rows = [
            ("f(x)", "f", ["f(x)"]), ("f(x) + f[2](x) * f(y)", "f", ["f(x)", "f(y)", "f[2](x)"]), ("f(x) - f(x)", "f", []),
            ("f(f(x))", "f", ["f(f(x))", "f(x)"]), ("f(f(x)) + f(x)", "f", ["f(f(x))", "f(x)"]), ("h(f(x) + 1)", "f", ["f(x)"]),
            ("h(-x)", "h", ["h(-x)"]), ("h(x)", "h", ["h(-x)"]), ("p(x)", "p", ["p.0", "p.1", "p.2"]), ("p[1](x)", "p", ["p.1", "p.2"]),
            ("f(p[2](x))", "p", ["p.2"]), ("f(p[2](x))", "f", ["f(2*p.2)"]), ("integral(x, y, f)", "f", ["f[-1](x)", "f[-1](y)"]),
            ("g(f(x), g(y, 1))", "g", ["g(f(x), g(y, 1))", "g(y, 1)"]), ("g(f(x), g(y, 1))", "f", ["f(x)"]), ("x", "f", []),
            ("slope(fn t: f(t * t))(x)", "f", ["f[1](x^2)"]), ("f(x) * f(x) * f(x)", "f", ["f(x)"]), ("f(2) + f(10)", "f", ["f(10)", "f(2)"]),
            ("g[1,0](x, y) * g[0,1](x, y)", "g", ["g[0,1](x, y)", "g[1,0](x, y)"]), ("h(h(h(0)))", "h", []),
        ]
        for text, name, atoms in rows:
            self.assertEqual(reads(made(text), name), atoms, text)
        found = reads(program=made("f(x)"), name="f")
        found.append(1)
        self.assertEqual(reads(made("f(x)"), "f"), ["f(x)"])

    def test_drawn_programs(self):
        source = random.Random(52)
        many = 0
        for _ in range(140):
            world = random_world(source)
            _, program = random_program(world, source)
            text = meaning(program).text
            for name in world.functions():
                atoms = reads(program, name)
                many += len(atoms)
                self.assertEqual(atoms, sorted(atoms))
                self.assertEqual(atoms, sorted(atoms_in(text, name)), text)
                self.assertIs(hangs_on(program, name), len(atoms) > 0)
        self.assertGreater(many, 100)

    def test_errors(self):
        for function in (reads, is_additive):
            for value in [*NO_NAMES, "x", "y"]:
                self.assert_fails(UnknownName(value), function, made("f(x)"), value)
                self.assert_fails(UnknownName(value), function, made("?1 * f(x)"), value)
            self.assert_fails(InvalidBlank(7), function, made("f(x) - ?3 + ?1"), "f")
            self.assert_fails(InvalidBlank(7), function, made("f(x) - ?3 + ?1"), "g")


def atoms_in(text, name):
    """The texts of the atoms of a function in the text of a form, found by its parentheses."""
    found = set(re.findall(rf"(?<![a-z]){name}\.[0-9]+", text))
    for begin in re.finditer(rf"(?<![a-z]){name}(\[[-0-9,]+\])?\(", text):
        depth = 1
        end = begin.end()
        while depth:
            depth += {"(": 1, ")": -1}.get(text[end], 0)
            end += 1
        found.add(text[begin.start():end])
    return found


class TestIsAdditive(Case):
    def test_programs(self):
        rows = [
            ("f(x)", True), ("f(x) + f(y)", True), ("0", True), ("x", False), ("f(x) + x", False), ("f(x) * f(x)", False), ("f(x) * f(y)", False),
            ("f(f(x))", False), ("h(f(x))", False), ("h(x) * f[2](x) * y", True), ("integral(x, y, f)", True), ("f(x) * h(x)", True),
            ("f(x) * f(x) - f(x) * f(x) + f(y)", True), ("f(x) + 1", False), ("f(x) + h(f(y))", False), ("f(x) * h(f(y))", False), ("f(h(x))", True),
            ("slope(fn t: f(t) * t)(x)", True), ("slope(fn t: f(t) * f(t))(x)", False), ("g(f(x), 1)", False), ("g(x, y) * f(1)", True), ("f(p(x))", True),
            ("f(x) * h(x) * h(y) - f(3)", True), ("f(x) - f(x)", True), ("h(0)", True), ("f(x * f(y) * 0)", True),
        ]
        for text, answer in rows:
            self.assertIs(is_additive(made(text), "f"), answer, text)
        self.assertIs(is_additive(program=made("f(x)"), name="f"), True)

    def test_other_functions(self):
        rows = [
            ("p(x)", "p", True), ("p(x) * x + p[1](y)", "p", True), ("p(x) * p(y)", "p", False), ("p(x) + 1", "p", False), ("f(p[2](x))", "p", False),
            ("f(p[3](x))", "p", False), ("f(p[3](x)) * p(x)", "p", True), ("p(p(x))", "p", False), ("p[3](x)", "p", True), ("g(x, y)", "g", True),
            ("g(x, y) - g[1,2](y, x) * f(x)", "g", True), ("g(g(x, y), 1)", "g", False), ("g(x, y) * g(y, x)", "g", False), ("h(x) + h(y)", "h", True),
            ("integral(x, y, p)", "p", True), ("h(h(x))", "h", False), ("p(f(x))", "f", False), ("p[1](x) * f(1)", "f", True), ("p(f(x))", "p", True),
        ]
        for text, name, answer in rows:
            self.assertIs(is_additive(made(text), name), answer, text)

    def test_drawn_programs(self):
        """The answer for a sum of two polynomials is the sum of the answers, exactly for additive programs."""
        source = random.Random(53)
        found = [0, 0]
        for _ in range(220):
            world = random_world(source)
            program, kept = random_program(world, source, depth=3)
            name = source.choice([name for name in world.functions() if world.fact(name).arity == 1])
            answer = is_additive(kept, name)
            found[answer] += 1
            fits = True
            for _ in range(3 if answer else 12):
                fits = fits and self.fits(world, program, name, source)
            self.assertIs(fits, answer, (program.text, name, str(meaning(kept))))
        self.assertGreater(min(found), 20)

    def fits(self, world, program, name, source):
        witness = oracle.Witness(world, source)
        one, other = witness.shapes[name], oracle.Witness(world, source).shapes[name]
        many = max(len(one.worths), len(other.worths))
        pad = [shape.worths + [Fraction(0)] * (many - len(shape.worths)) for shape in (one, other)]
        both = oracle.Poly1([left + right for left, right in zip(*pad)])
        answers = []
        for shape in (one, other, both):
            witness.shapes[name] = shape
            answers.append(program.run(witness).worth)
        return answers[0] + answers[1] == answers[2]


class TestCanExchange(Case):
    WORLD = World(["x", "y"], {"f": Unseen(), "h": Unseen(), "e": Unseen(mirror="even"), "g": Unseen(2)})

    def check(self, text, one, other, is_alike, want):
        program = made(text, self.WORLD)
        verdict = can_exchange(program, one, other)
        self.assertIs(type(verdict), Alike if is_alike else Apart, text)
        self.assertIs(bool(verdict), is_alike)
        self.assertEqual(verdict.one, program)
        self.assertEqual(verdict.other.text, want)
        self.assertEqual((verdict.name, verdict.power), (None, None))
        self.assertTrue(verdict.holds())
        self.assertEqual(bool(verdict), bool(compare(program, made(want, self.WORLD))))

    def test_programs(self):
        rows = [
            ("f(x) + h(x)", "f", "h", True, "h(x) + f(x)"), ("f(x) - h(x)", "f", "h", False, "h(x) - f(x)"), ("f(x) * h(x)", "h", "f", True, "h(x) * f(x)"),
            ("f(h(x))", "f", "h", False, "h(f(x))"), ("f(h(x)) + h(f(x))", "f", "h", True, "h(f(x)) + f(h(x))"), ("f(x)", "f", "f", True, "f(x)"),
            ("f(x) - f(x)", "f", "h", True, "h(x) - h(x)"), ("x * y", "f", "g", True, "x * y"), ("e(x) + f(x)", "e", "f", True, "f(x) + e(x)"),
            ("f(x) + e(-x)", "e", "f", False, "e(x) + f(-x)"), ("f(-x) + e(x)", "e", "f", False, "e(-x) + f(x)"), ("h(x)", "f", "g", True, "h(x)"),
            ("e(x) - e(-x)", "e", "f", False, "f(x) - f(-x)"), ("slope(fn t: f(t) * h(t))(x)", "f", "h", True, "slope(fn t: h(t) * f(t))(x)"),
            ("let a = f; a(x) * h(x)", "h", "f", True, "let a = h; a(x) * f(x)"), ("integral(x, y, f) + integral(x, y, h)", "f", "h", True,
                                                                                "integral(x, y, h) + integral(x, y, f)"),
            ("g(f(x), h(x))", "f", "h", False, "g(h(x), f(x))"), ("f[2](x) - f[2](x) * 1", "h", "f", True, "h[2](x) - h[2](x) * 1"),
        ]
        for row in rows:
            self.check(*row)
        self.assertTrue(can_exchange(program=made("f(x) + h(x)", self.WORLD), one="f", other="h"))

    def test_errors(self):
        def fails(error, text, one, other):
            self.assert_fails(error, can_exchange, made(text, self.WORLD), one, other)
        fails(UnknownName("z"), "f(x)", "f", "z")
        fails(UnknownName("z"), "f(x)", "z", "f")
        fails(UnknownName("b"), "f(x)", "z", "b")
        fails(UnknownName("a"), "?1", "a", "z")
        fails(UnknownName("x"), "f(x)", "f", "x")
        fails(UnknownName("x"), "f(x)", "y", "x")
        fails(UnknownName(""), "f(x)", "f", "")
        fails(WrongKind(0), "f(x)", "f", "g")
        fails(WrongKind(4), "x + g(x, y)", "f", "g")
        fails(WrongKind(5), "?1 * f(x)", "f", "g")
        fails(UnknownName("z"), "?1 * f(x)", "f", "z")
        fails(InvalidBlank(0), "?1 * f(x)", "f", "h")
        fails(InvalidBlank(7), "h(x) * ?2 + ?1", "f", "h")

    def test_the_program_stays(self):
        program = made("f(x) - h(y)", self.WORLD)
        can_exchange(program, "f", "h")
        self.assertEqual(program.text, "f(x) - h(y)")
        self.assertEqual(str(meaning(program)), "f(x) - h(y)")


if __name__ == "__main__":
    unittest.main()
