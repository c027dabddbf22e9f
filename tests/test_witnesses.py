"""Witnesses, the values of forms and the answers of programs at them ([4], [12])."""

import random
import unittest
from fractions import Fraction

import oracle
from bridge import about_centre, fraction, oracle_witness, package_witness, random_program, random_world, ratio
from helpers import ANY_VALUES, Case
from slopy import SlopeMaker
from unseenslopes.calculus import input_form, integral_of, slope_of, unseen_at
from unseenslopes.curves import Curve, Sheet
from unseenslopes.errors import InvalidBlank, InvalidNumber, InvalidWitness, UnknownName, UnlikeWorlds
from unseenslopes.forms import constant
from unseenslopes.meaning import meaning
from unseenslopes.programs import Program
from unseenslopes.ratios import Ratio
from unseenslopes.unseen import Unseen, World
from unseenslopes.witnesses import Witness

HALF = Ratio(1, 2)
WORLD = World(["y", "x"], {"g": Unseen(2), "f": Unseen()})
CURVE = Curve([1, 2, HALF])
SHEET = Sheet([(0, 1, 2), (2, 0, Ratio(1, 3))])
WITNESS = Witness(WORLD, inputs={"x": 3, "y": HALF}, functions={"f": CURVE, "g": SHEET})


def of_one(fact, shape):
    return Witness(World([], {"f": fact}), inputs={}, functions={"f": shape})


class TestParts(Case):
    def test_parts(self):
        self.assertIs(WITNESS.world, WORLD)
        self.assertEqual(WITNESS.number_of("x"), 3)
        self.assertIsInstance(WITNESS.number_of("x"), Ratio)
        self.assertEqual(WITNESS.number_of(name="y"), HALF)
        self.assertEqual(WITNESS.shape_of("f"), CURVE)
        self.assertEqual(WITNESS.shape_of(name="g"), SHEET)
        for value in [value for value in ANY_VALUES if value != "x"] + ["f", "g", "z", ["x"], ("x",), Ratio(1)]:
            self.assert_fails(UnknownName(value), WITNESS.number_of, value)
        for value in [*ANY_VALUES, "y", "z", ["f"], ("f",), Ratio(1)]:
            self.assert_fails(UnknownName(value), WITNESS.shape_of, value)

    def test_told_and_texts(self):
        told = [("f", "1 2 1/2"), ("g", "0 1 2, 2 0 1/3"), ("x", "3"), ("y", "1/2")]
        self.assertEqual(WITNESS.told(), told)
        self.assertEqual(repr(WITNESS), "Witness(f = 1 2 1/2, g = 0 1 2, 2 0 1/3, x = 3, y = 1/2)")
        world = World(["x"], {"f": Unseen()})
        self.assertEqual(repr(Witness(world, inputs={"x": 3}, functions={"f": Curve([1, 2])})), "Witness(f = 1 2, x = 3)")
        self.assertEqual(repr(Witness(World([], {}), inputs={}, functions={})), "Witness()")
        zero = Witness(world, inputs={"x": 0}, functions={"f": Curve([0])})
        self.assertEqual(zero.told(), [("f", ""), ("x", "0")])
        zero.told().clear()
        self.assertEqual(len(zero.told()), 2)

    def test_arguments_are_copied(self):
        inputs, functions = {"x": 3, "y": HALF}, {"f": CURVE, "g": SHEET}
        witness = Witness(functions=functions, inputs=inputs, world=WORLD)
        inputs["x"] = 5
        functions.clear()
        self.assertEqual(witness, WITNESS)
        with self.assertRaises(TypeError):
            Witness(WORLD, {"x": 3, "y": HALF}, {"f": CURVE, "g": SHEET})

    def test_order_of_keys(self):
        witness = Witness(WORLD, inputs={"y": HALF, "x": 3}, functions={"g": SHEET, "f": CURVE})
        self.assertEqual(witness, WITNESS)
        self.assertEqual(witness.told(), WITNESS.told())

    def test_equality(self):
        def made(world=WORLD, x=3, y=HALF, f=CURVE, g=SHEET):
            return Witness(world, inputs={"x": x, "y": y}, functions={"f": f, "g": g})
        self.assertTrue(made() == WITNESS)
        self.assertFalse(made() != WITNESS)
        self.assertTrue(made(x=Ratio(6, 2), f=Curve([1, 2, HALF, 0])) == WITNESS)
        others = [
            made(x=4), made(y=0), made(f=Curve([1, 2])), made(g=SHEET.swapped()), made(World(["x", "y"], {"g": Unseen(2), "f": Unseen()})),
            made(World(["y", "x"], {"g": Unseen(2), "f": Unseen(degree=2)})), None, 0, "", WITNESS.told(), repr(WITNESS), CURVE, WORLD,
        ]
        for other in others:
            self.assertIs(WITNESS == other, False)
            self.assertIs(other == WITNESS, False)
            self.assertIs(WITNESS != other, True)
            self.assertIs(other != WITNESS, True)


class TestErrors(Case):
    def fail(self, expected, inputs, functions, world=WORLD):
        self.assert_fails(expected, Witness, world, inputs=inputs, functions=functions)

    def test_names(self):
        inputs, functions = {"x": 1, "y": 2}, {"f": CURVE, "g": SHEET}
        self.fail(UnknownName("z"), {**inputs, "z": 1}, functions)
        self.fail(UnknownName("a"), {**inputs, "z": 1, "a": None, "q": 1}, functions)
        self.fail(UnknownName("f"), {**inputs, "f": CURVE}, functions)
        self.fail(UnknownName("q"), {**inputs, "q": 1}, {"a": CURVE})
        self.fail(UnknownName("x"), inputs, {**functions, "x": 1})
        self.fail(UnknownName("a"), inputs, {"z": CURVE, **functions, "a": CURVE})
        self.fail(UnknownName("z"), {}, {"z": CURVE})
        self.fail(UnknownName(""), {"": 1}, {"z": CURVE})

    def test_numbers(self):
        functions = {"f": CURVE, "g": SHEET}
        self.fail(InvalidWitness("y"), {}, functions)
        self.fail(InvalidWitness("y"), {"x": 1}, functions)
        self.fail(InvalidWitness("x"), {"y": 1}, {})
        for value in [value for value in ANY_VALUES if isinstance(value, bool) or not isinstance(value, int)] + [CURVE, constant(1)]:
            self.fail(InvalidWitness("x"), {"x": value, "y": 1}, {})
            self.fail(InvalidWitness("y"), {"x": value, "y": value}, {})

    def test_polynomials(self):
        inputs = {"x": 1, "y": 2}
        self.fail(InvalidWitness("f"), inputs, {})
        self.fail(InvalidWitness("f"), inputs, {"g": SHEET})
        self.fail(InvalidWitness("g"), inputs, {"f": CURVE})
        self.fail(InvalidWitness("f"), inputs, {"g": CURVE, "f": SHEET})
        self.fail(InvalidWitness("g"), inputs, {"g": CURVE, "f": CURVE})
        for value in [*ANY_VALUES, HALF, [1, 2], "1 2", constant(1), (0, 0, 1)]:
            self.fail(InvalidWitness("f"), inputs, {"f": value, "g": value})
            self.fail(InvalidWitness("g"), inputs, {"f": CURVE, "g": value})

    def test_order(self):
        world = World(["b", "a"], {"d": Unseen(), "c": Unseen()})
        self.fail(InvalidWitness("b"), {}, {}, world)
        self.fail(InvalidWitness("a"), {"b": 1}, {}, world)
        self.fail(InvalidWitness("c"), {"b": 1, "a": 1}, {}, world)
        self.fail(InvalidWitness("d"), {"b": 1, "a": 1}, {"c": CURVE}, world)


class TestFacts(Case):
    def test_degrees(self):
        for degree in (0, 1, 2, 3):
            fact = Unseen(degree=degree)
            for many in range(6):
                shape = Curve([0] * many + [HALF])
                if many <= degree:
                    self.assertEqual(of_one(fact, shape).shape_of("f"), shape)
                else:
                    self.assert_fails(InvalidWitness("f"), of_one, fact, shape)
            self.assertEqual(of_one(fact, Curve([])).shape_of("f"), Curve([]))
            self.assertEqual(of_one(fact, Curve([1, *[0] * 9])).shape_of("f"), Curve([1]))

    def about(self, worths, centre):
        """The polynomial with coefficients by powers of the argument less a centre."""
        moved = oracle.Witness.moved([fraction(Ratio(1) * worth) for worth in worths], fraction(Ratio(1) * centre))
        return Curve([ratio(worth) for worth in moved.worths])

    def test_mirrors(self):
        for centre in (0, 1, -3, HALF, Ratio(-7, 3)):
            even, odd = Unseen(mirror="even", centre=centre), Unseen(mirror="odd", centre=centre)
            right = {"even": self.about([2, 0, HALF, 0, -1, 0, 3], centre), "odd": self.about([0, HALF, 0, 5, 0, -1], centre)}
            of_one(even, right["even"])
            of_one(odd, right["odd"])
            self.assert_fails(InvalidWitness("f"), of_one, odd, right["even"])
            self.assert_fails(InvalidWitness("f"), of_one, even, right["odd"])
            for power in range(7):
                wrong = self.about([0] * power + [Ratio(1, 9)], centre)
                for fact, shape in [(even, right["even"]), (odd, right["odd"])]:
                    worths = [a + b for a, b in zip(shape.worths() + [0] * 7, wrong.worths() + [0] * 7)]
                    if (power % 2 == 0) == (fact.mirror == "even"):
                        of_one(fact, Curve(worths))
                    else:
                        self.assert_fails(InvalidWitness("f"), of_one, fact, Curve(worths))
            for fact in (even, odd):
                of_one(fact, Curve([]))
            of_one(even, Curve([7]))
            self.assert_fails(InvalidWitness("f"), of_one, odd, Curve([7]))

    def test_mirrors_about_another_centre(self):
        fact = Unseen(mirror="even", centre=1)
        of_one(fact, Curve([0, -2, 1]))
        self.assert_fails(InvalidWitness("f"), of_one, fact, Curve([0, 0, 1]))
        of_one(Unseen(mirror="odd", centre=1), Curve([-1, 1]))
        self.assert_fails(InvalidWitness("f"), of_one, Unseen(mirror="odd", centre=1), Curve([0, 1]))

    def test_mirrors_and_degrees(self):
        fact = Unseen(mirror="odd", centre=2, degree=2)
        of_one(fact, Curve([-2, 1]))
        self.assert_fails(InvalidWitness("f"), of_one, fact, Curve([-8, 12, -6, 1]))
        of_one(Unseen(mirror="odd", centre=2, degree=3), Curve([-8, 12, -6, 1]))
        self.assert_fails(InvalidWitness("f"), of_one, Unseen(mirror="even", centre=2, degree=3), Curve([-8, 12, -6, 1]))

    def test_swaps(self):
        same = [(0, 0, 1), (1, 1, HALF), (0, 2, 3), (2, 0, 3), (4, 5, -1), (5, 4, -1)]
        minus = [(0, 2, 3), (2, 0, -3), (4, 5, -HALF), (5, 4, HALF)]
        of_one(Unseen(2), Sheet([(1, 2, 3)]))
        of_one(Unseen(2, swap="same"), Sheet(same))
        of_one(Unseen(2, swap="minus"), Sheet(minus))
        for swap, rows in [("same", same), ("minus", minus)]:
            of_one(Unseen(2, swap=swap), Sheet([]))
            for row in [(0, 2, 1), (3, 6, -1), (5, 4, 2)]:
                self.assert_fails(InvalidWitness("f"), of_one, Unseen(2, swap=swap), Sheet([*rows, row]))
        for row in [(0, 0, 1), (1, 1, HALF), (6, 6, -1)]:
            of_one(Unseen(2, swap="same"), Sheet([*same, row]))
            self.assert_fails(InvalidWitness("f"), of_one, Unseen(2, swap="minus"), Sheet([*minus, row]))
        self.assert_fails(InvalidWitness("f"), of_one, Unseen(2, swap="minus"), Sheet(same))
        self.assert_fails(InvalidWitness("f"), of_one, Unseen(2, swap="same"), Sheet(minus))


class TestWorth(Case):
    def test_values(self):
        x, y = input_form(WORLD, "x"), input_form(WORLD, "y")
        rows = [
            (constant(HALF), HALF), (x, 3), (x * y - 2, Ratio(-1, 2)), (unseen_at(WORLD, "f", [0], [x]), Ratio(23, 2)),
            (unseen_at(WORLD, "f", [1], [y]), Ratio(5, 2)), (unseen_at(WORLD, "f", [2], [y]), 1), (unseen_at(WORLD, "f", [3], [y]), 0),
            (unseen_at(WORLD, "g", [0, 0], [x, y]), 4), (unseen_at(WORLD, "g", [1, 0], [x, y]), 2), (unseen_at(WORLD, "g", [0, 1], [x, y]), 2),
            (unseen_at(WORLD, "g", [2, 0], [x, y]), Ratio(2, 3)), (unseen_at(WORLD, "g", [1, 1], [x, y]), 0),
            (integral_of(WORLD, 0, x, "f"), Ratio(33, 2)), (constant(0), 0),
        ]
        for form, worth in rows:
            self.assertEqual(WITNESS.worth(form), worth, form.text)
            self.assertIsInstance(WITNESS.worth(form), Ratio)
        self.assertEqual(WITNESS.worth(form=x), 3)

    def test_coefficients(self):
        world = World(["x"], {"p": Unseen(degree=3), "q": Unseen(mirror="odd", centre=1, degree=3)})
        shapes = {"p": Curve([5, 0, HALF]), "q": Curve([-1 - 2, 3 + 2, -3, 1])}
        witness = Witness(world, inputs={"x": 2}, functions=shapes)
        found = {text: [] for text in "pq"}
        for name in "pq":
            form = unseen_at(world, name, [0], [input_form(world, "x")])
            self.assertEqual(witness.worth(form), shapes[name](2))
            for text, _ in form.terms():
                found[name].append(text.split("*")[0])
            integral = integral_of(world, 1, input_form(world, "x"), name)
            self.assertEqual(witness.worth(integral), shapes[name].integral_curve(1)(2))
        self.assertEqual(sorted(set(found["p"])), ["p.0", "p.1", "p.2", "p.3"])
        self.assertEqual(sorted(set(found["q"])), ["q.1", "q.3"])
        slope = unseen_at(world, "q", [3], [0])
        self.assertEqual((slope.text, witness.worth(slope)), ("6*q.3", 6))

    def test_deep_forms(self):
        form = input_form(WORLD, "x")
        for _ in range(1200):
            form = unseen_at(WORLD, "f", [0], [form])
        witness = Witness(WORLD, inputs={"x": 3, "y": 0}, functions={"f": Curve([1, 1]), "g": SHEET})
        self.assertEqual(witness.worth(form), 1203)

    def test_random_forms(self):
        source = random.Random(21)
        for _ in range(120):
            world = random_world(source)
            made, program = random_program(world, source)
            found = oracle.Witness(world, source)
            form = meaning(program)
            witness = package_witness(world, found)
            self.assertEqual(fraction(witness.worth(form)), oracle.FormText(form.text, found).answer())
            for name in world.inputs():
                slope = slope_of(world, form, name)
                self.assertEqual(fraction(witness.worth(slope)), oracle.FormText(slope.text, found).answer())
            again = oracle_witness(witness, source)
            self.assertEqual(fraction(witness.worth(form)), oracle.FormText(form.text, again).answer())

    def test_coefficients_of_the_reckoning(self):
        shape = oracle.Witness.moved([Fraction(3), Fraction(0), Fraction(1, 2)], Fraction(2, 3))
        found = about_centre(shape, Fraction(2, 3))
        self.assertEqual(found, [3, 0, Fraction(1, 2)] + [0] * (len(found) - 3))


class TestAnswers(Case):
    def test_values(self):
        for text, worth in [
            ("x * y + 1", Ratio(5, 2)), ("f(x)", Ratio(23, 2)), ("g(x, y) - g[1,0](x, y)", 2), ("slope(f)(x)", 5), ("integral(y, x, f)", Ratio(755, 48)),
            ("slope(fn a: a * slope(fn b: a + b)(1))(x)", 1), ("slope(fn a: fn b: a * b * a)(x)(y)", 3), ("slope(slope(fn t: f(t) * t))(x)", 2 * 5 + 3),
            ("let s = slope(fn u: fn @p: fn t: p(t + u))(0); s(s(f))(x)", 1), ("slope(fn t: g(t, t))(x)", 4), ("0", 0), ("f[4](x)", 0),
        ]:
            program = Program(WORLD, text)
            self.assertEqual(WITNESS.answer(program), WITNESS.worth(meaning(program)), text)
            self.assertIsInstance(WITNESS.answer(program), Ratio)
            self.assertEqual(WITNESS.answer(program), worth, text)
        self.assertEqual(WITNESS.answer(program=Program(WORLD, "integral(0, x, f)")), Ratio(33, 2))

    def test_integrals_from_one_end_to_the_other(self):
        world = World(["x"], {"f": Unseen(mirror="even", centre=2), "p": Unseen(degree=1)})
        witness = Witness(world, inputs={"x": 5}, functions={"f": Curve([5, -4, 1]), "p": Curve([1, 2])})
        self.assertEqual(witness.answer(Program(world, "integral(2, x, f)")), 12)
        self.assertEqual(witness.answer(Program(world, "integral(-1, x, f)")), 24)
        self.assertEqual(witness.answer(Program(world, "integral(x, 0, p)")), -30)
        self.assertEqual(witness.answer(Program(world, "slope(fn t: integral(t, t * t, f))(x)")), 10 * 530 - 10)

    def test_slopes(self):
        program = Program(WORLD, "x * x * x * y + f(x * y)")
        rows = {"x": [Ratio(149, 8), Ratio(61, 4), Ratio(37, 4), 3, 0, 0, 0], "y": [Ratio(149, 8), Ratio(75, 2), 9, 0, 0, 0, 0]}
        for name, worths in rows.items():
            for times, worth in enumerate(worths):
                self.assertEqual(WITNESS.slope_answer(program, name, times), worth, (name, times))
                self.assertIsInstance(WITNESS.slope_answer(program, name, times), Ratio)
            self.assertEqual(WITNESS.slope_answer(program, name), worths[1])
            self.assertEqual(WITNESS.slope_answer(times=2, name=name, program=program), worths[2])
        self.assertEqual(WITNESS.slope_answer(program, "x", 0), WITNESS.answer(program))

    def test_slopes_of_slopes_by_the_input_of_their_place(self):
        program = Program(WORLD, "slope(fn t: t * slope(fn s: s * s * t * x)(x))(x)")
        self.assertEqual(str(meaning(program)), "4*x^3")
        for times, worth in enumerate([108, 108, 72, 24, 0]):
            self.assertEqual(WITNESS.slope_answer(program, "x", times), worth)

    def test_unlike_worlds_and_blanks(self):
        other = World(["x", "y"], {"f": Unseen(), "g": Unseen(2)})
        self.assert_fails(UnlikeWorlds(), WITNESS.answer, Program(other, "x"))
        self.assert_fails(UnlikeWorlds(), WITNESS.answer, Program(other, "?1"))
        self.assert_fails(UnlikeWorlds(), WITNESS.slope_answer, Program(other, "?1"), "x")
        for text, at in [("?1", 0), ("x*y+2*(x-?3)", 17), ("f(x)*?2+?1", 7), ("let a=f;a(x)-?6*2", 18)]:
            self.assert_fails(InvalidBlank(at), WITNESS.answer, Program(WORLD, text))
            self.assert_fails(InvalidBlank(at), WITNESS.slope_answer, Program(WORLD, text), "x", 2)
        half_filled = Program(WORLD, "?1 * x + ?2").filled([Ratio(-1, 3)])
        self.assert_fails(InvalidBlank(half_filled.text.index("?")), WITNESS.answer, half_filled)
        self.assertEqual(WITNESS.answer(half_filled.filled([0, 5])), 4)

    def test_order_of_errors(self):
        program, blank, alien = Program(WORLD, "x"), Program(WORLD, "?1"), Program(World(["x"], {}), "?1")
        for value in [value for value in ANY_VALUES if value != "x"] + ["f", "z", ["x"], ("x",), Ratio(1)]:
            for given in (program, blank, alien):
                self.assert_fails(UnknownName(value), WITNESS.slope_answer, given, value, 7)
        for value in [value for value in ANY_VALUES if value is True or not (isinstance(value, int) and 0 <= value <= 6)] + [7, -1, Ratio(1), HALF, False]:
            for given in (program, blank, alien):
                self.assert_fails(InvalidNumber(value), WITNESS.slope_answer, given, "x", value)
        self.assert_fails(UnlikeWorlds(), WITNESS.slope_answer, alien, "x", 6)
        self.assert_fails(InvalidBlank(0), WITNESS.slope_answer, blank, "x", 6)

    def test_random_answers_and_slopes(self):
        source = random.Random(22)
        for _ in range(150):
            world = random_world(source)
            made, program = random_program(world, source, maker=source.choice([oracle.Maker, SlopeMaker]))
            found = oracle.Witness(world, source)
            witness = package_witness(world, found)
            self.assertEqual(fraction(witness.answer(program)), made.run(found).worth, made.text)
            self.assertEqual(witness.answer(program), witness.worth(meaning(program)))
            name, times = source.choice(world.inputs()), source.randint(0, 4)
            found.moves = {name: [f"step {k}" for k in range(times)]}
            answer = made.run(found)
            for tag in found.moves[name]:
                answer = answer.stripped(tag)
            self.assertEqual(fraction(witness.slope_answer(program, name, times)), answer.parts.get(oracle.PLAIN, 0), made.text)

    def test_six_slopes(self):
        source = random.Random(23)
        for _ in range(25):
            world = random_world(source)
            made, program = random_program(world, source, depth=3)
            witness = package_witness(world, oracle.Witness(world, source))
            form = meaning(program)
            for times in range(7):
                self.assertEqual(witness.slope_answer(program, "x", times), witness.worth(form), made.text)
                form = slope_of(world, form, "x")

    def test_programs_beyond_the_limits_of_texts(self):
        program = Program(WORLD, "+".join(["?1*x"] * 120)).filled([Ratio(-1, 10 ** 29)])
        self.assertGreater(len(program.text), 600)
        self.assertEqual(WITNESS.answer(program), Ratio(-360, 10 ** 29))
        self.assertEqual(WITNESS.slope_answer(program, "x"), Ratio(-120, 10 ** 29))


if __name__ == "__main__":
    unittest.main()
