"""The way back through slot code ([18], way_back)."""

import random
import unittest

import codey
import oracle
from bridge import fraction, package_witness, random_program, random_world
from helpers import ANY_VALUES, Case
from unseenslopes.back import way_back
from unseenslopes.calculus import slope_of
from unseenslopes.codes import Code
from unseenslopes.errors import InvalidNumber, InvalidRow
from unseenslopes.meaning import meaning
from unseenslopes.programs import Program
from unseenslopes.ratios import Ratio
from unseenslopes.tracing import trace
from unseenslopes.unseen import Unseen, World

WORLD = World(["x", "y"], {"f": Unseen(), "e": Unseen(mirror="even", centre=1), "p": Unseen(degree=2), "g": Unseen(2, swap="minus")})
BEGIN = [(0, "in", "x"), (1, "in", "y")]


class BackCase(Case):
    def check(self, code, index=0):
        """Asks what is promised of the way back, and tells it."""
        before = str(code)
        back = way_back(code, index)
        self.assertIs(type(back), Code)
        self.assertEqual(back.world, code.world)
        codey.assert_straight(self, back)
        self.assertLessEqual(len(back), 7 * len(code) + 8)
        names = code.world.inputs()
        form = code.forms()[index]
        self.assertEqual(back.forms(), [slope_of(code.world, form, name) for name in names], str(code))
        self.assertEqual(str(code), before)
        return back


class TestWayBack(BackCase):
    def test_rows(self):
        rows = [
            ([(2, "in", "x")], ["1", "0"]), ([(2, "in", "y")], ["0", "1"]), ([(2, "put", Ratio(5))], ["0", "0"]), ([(2, "add", 0, 1)], ["1", "1"]),
            ([(2, "add", 0, 0)], ["2", "0"]), ([(2, "sub", 0, 1)], ["1", "-1"]), ([(2, "sub", 1, 0)], ["-1", "1"]), ([(2, "sub", 0, 0)], ["0", "0"]),
            ([(2, "mul", 0, 1)], ["y", "x"]), ([(2, "mul", 0, 0)], ["2*x", "0"]), ([(2, "one", "f", 0, 0)], ["f[1](x)", "0"]),
            ([(2, "one", "f", -1, 1)], ["0", "f(y)"]), ([(2, "one", "e", 1, 1)], ["0", "e[2](2 - y)"]), ([(2, "one", "e", -1, 0)], ["e(2 - x)", "0"]),
            ([(2, "one", "p", 0, 0)], ["p.1 + 2*p.2*x", "0"]), ([(2, "one", "p", 2, 0)], ["0", "0"]),
            ([(2, "two", "g", (0, 0), 0, 1)], ["g[1,0](x, y)", "g[0,1](x, y)"]), ([(2, "two", "g", (0, 0), 1, 0)], ["-g[1,0](x, y)", "-g[0,1](x, y)"]),
            ([(2, "two", "g", (0, 0), 0, 0)], ["0", "0"]), ([(2, "two", "g", (1, 0), 0, 0)], ["g[2,0](x, x)", "0"]),
            ([(0, "mul", 0, 1), (2, "mul", 0, 0)], ["2*x*y^2", "2*x^2*y"]), ([(0, "in", "y"), (2, "mul", 0, 1)], ["0", "2*y"]),
            ([(2, "in", "x"), (2, "mul", 2, 0)], ["2*x", "0"]), ([(2, "one", "f", 0, 1), (3, "put", Ratio(1)), (2, "sub", 3, 2)], ["0", "-f[1](y)"]),
        ]
        for more, slopes in rows:
            back = self.check(Code(WORLD, [*BEGIN, *more], [2]))
            self.assertEqual([str(form) for form in back.forms()], slopes, more)

    def test_several_answers(self):
        code = Code(WORLD, [*BEGIN, (2, "mul", 0, 1), (0, "one", "f", 0, 2), (2, "add", 0, 2), (3, "put", Ratio(7))], [0, 2, 1, 2, 3])
        want = [["f[1](x*y)*y", "f[1](x*y)*x"], ["f[1](x*y)*y + y", "f[1](x*y)*x + x"], ["0", "1"], ["f[1](x*y)*y + y", "f[1](x*y)*x + x"], ["0", "0"]]
        for index, slopes in enumerate(want):
            self.assertEqual([str(form) for form in self.check(code, index).forms()], slopes)
        self.assertEqual(way_back(code), way_back(code, 0))
        self.assertEqual(way_back(index=2, code=code), way_back(code, 2))

    def test_example(self):
        world = World(["x", "y"], {"f": Unseen()})
        code = Code(world, [(0, "in", "x"), (1, "in", "y"), (0, "mul", 0, 1), (0, "one", "f", 0, 0)], [0])
        self.assertEqual([str(form) for form in way_back(code).forms()], ["f[1](x*y)*y", "f[1](x*y)*x"])

    def test_worlds_with_no_inputs_and_with_four(self):
        back = self.check(Code(World([], {}), [(0, "put", Ratio(3))], [0]))
        self.assertEqual((len(back), back.answer_slots()), (0, []))
        world = World(["x", "y", "a", "b"], {"g": Unseen(2)})
        code = Code(world, [(0, "in", "b"), (1, "in", "y"), (0, "two", "g", (0, 0), 0, 1)], [0])
        self.assertEqual([str(form) for form in self.check(code).forms()], ["0", "g[0,1](b, y)", "0", "g[1,0](b, y)"])

    def test_rows_that_the_answer_does_not_hang_on(self):
        code = Code(WORLD, [*BEGIN, (2, "one", "f", 0, 1), (2, "one", "f", 5, 2), (2, "put", Ratio(1)), (1, "mul", 0, 0)], [0, 1])
        self.assertLess(len(self.check(code, 0)), 4)
        self.check(code, 1)

    def test_drawn_codes(self):
        source = random.Random(81)
        many = 0
        for _ in range(150):
            world = random_world(source, source.choice([("x", "y"), ("x", "y", "z"), ("x",)]))
            code = codey.random_code(world, source)
            for index in range(len(code.answer_slots())):
                back = self.check(code, index)
                many += 1
                drawn = oracle.Witness(world, source)
                want = [codey.slopes(code, drawn, index, name) for name in world.inputs()]
                self.assertEqual(codey.worths(back, drawn), want, str(code))
                self.assertEqual([fraction(number) for number in back.numbers(package_witness(world, drawn))], want)
        self.assertGreater(many, 150)

    def test_most_rows(self):
        """Each word again and again, with slots that are read often."""
        source = random.Random(82)
        for word in ["add", "sub", "mul", "two", "one"]:
            for _ in range(5):
                rows = list(BEGIN)
                for slot in range(2, 12 if word in ("mul", "two") else 20):
                    a, b = source.randrange(slot), source.randrange(slot)
                    if word in ("mul", "two") and slot > 5:
                        a, b = source.randrange(4), source.randrange(4)
                    rows.append({"one": (slot, "one", "f", 0, a), "two": (slot, "two", "g", (0, 0), a, b)}.get(word, (slot, word, a, b)))
                total = len(rows)
                for slot in range(total - 1):
                    rows.append((total, "add", total if slot else total - 1, slot))
                self.check(Code(WORLD, rows, [total]))

    def test_traced_programs(self):
        source = random.Random(83)
        for _ in range(80):
            world = random_world(source)
            _, program = random_program(world, source, depth=3)
            form = meaning(program)
            if len(form.terms()) > 100:
                continue
            back = self.check(trace(program))
            self.assertEqual(back.forms(), [slope_of(world, form, name) for name in world.inputs()])
            witness = package_witness(world, oracle.Witness(world, source))
            self.assertEqual(back.numbers(witness), [witness.slope_answer(program, name) for name in world.inputs()])

    def test_ways_back_of_ways_back(self):
        source = random.Random(84)
        many = 0
        for _ in range(60):
            world = random_world(source)
            code = codey.random_code(world, source, most=9)
            if not code.answer_slots():
                continue
            many += 1
            back = way_back(code)
            second = [[str(form) for form in self.check(back, index).forms()] for index in range(2)]
            self.assertEqual(second[0][1], second[1][0])
            form = code.forms()[0]
            self.assertEqual(second[0][1], str(slope_of(world, slope_of(world, form, "x"), "y")))
            self.assertEqual(second[1][1], str(slope_of(world, slope_of(world, form, "y"), "y")))
        self.assertGreater(many, 30)

    def test_third_slopes(self):
        code = trace(Program(WORLD, "f(x * y) * e(x) + g(x, f(y)) - p(x)"))
        form = code.forms()[0]
        for name in ["x", "y", "x"]:
            form = slope_of(WORLD, form, name)
            back = self.check(code)
            code = Code(WORLD, back.listing(), [back.answer_slots()[WORLD.inputs().index(name)]])
            self.assertEqual(code.forms(), [form])

    def test_long_codes(self):
        rows = [(0, "in", "x"), (1, "in", "y")] + [(k & 1, ["add", "sub"][k % 3 == 0], 0, 1) for k in range(396)] + [(0, "one", "f", 0, 0)]
        back = self.check(Code(WORLD, rows, [0]))
        witness = package_witness(WORLD, oracle.Witness(WORLD, random.Random(5)))
        self.assertEqual(way_back(back, 1).numbers(witness), [witness.worth(slope_of(WORLD, back.forms()[1], name)) for name in "xy"])
        rows = [(0, "in", "x")] + [(0, "one", "f", 0, 0) for _ in range(60)]
        self.check(Code(WORLD, rows, [0]))


class TestErrors(BackCase):
    def test_indexes(self):
        code = Code(WORLD, [*BEGIN, (2, "add", 0, 1)], [0, 2])
        for value in [*[value for value in ANY_VALUES if isinstance(value, bool) or value not in (0, 1)], 2, -1, -2, Ratio(0), [0], (0,)]:
            self.assert_fails(InvalidNumber(value), way_back, code, value)
        for value in [0, 1, -1, None]:
            self.assert_fails(InvalidNumber(value), way_back, Code(WORLD, BEGIN, []), value)
        self.assert_fails(InvalidNumber(0), way_back, Code(WORLD, [], []))

    def test_many_slopes(self):
        for row in [(2, "one", "f", 11, 0), (2, "one", "p", 11, 0), (2, "one", "e", 11, 0), (2, "two", "g", (11, 0), 0, 1), (2, "two", "g", (0, 11), 0, 1),
                    (2, "two", "g", (11, 11), 0, 1)]:
            code = Code(WORLD, [*BEGIN, row], [2])
            back = self.check(code)
            if row[2] != "p":
                self.assertIn("12", str(back.forms()[0]) + str(back.forms()[1]))
        for row in [(2, "one", "f", 12, 0), (2, "one", "p", 12, 0), (2, "two", "g", (12, 0), 0, 1), (2, "two", "g", (0, 12), 0, 1), (2, "two", "g", (12, 12), 0, 0)]:
            self.assert_fails(InvalidRow(2), way_back, Code(WORLD, [*BEGIN, row], [2]))
            self.assert_fails(InvalidRow(2), way_back, Code(WORLD, [*BEGIN, row], [0]))
            self.assert_fails(InvalidRow(1), way_back, Code(WORLD, [BEGIN[0], (1, "one", "f", 12, 0), (0, "put", Ratio(1)), (2, "put", Ratio(2)), (2, *row[1:])], [0]))
            self.assert_fails(InvalidRow(3), way_back, Code(WORLD, [*BEGIN, (7, "one", "f", 11, 1), row, row], [0, 1]), 1)
            self.assert_fails(InvalidNumber(1), way_back, Code(WORLD, [*BEGIN, row], [0]), 1)

    def test_a_way_back_that_has_the_most_slopes(self):
        code = Code(WORLD, [(0, "in", "x"), (0, "one", "f", 11, 0)], [0])
        back = way_back(code)
        at = [row[3] for row in back.listing() if row[1] == "one"].index(12)
        index = [k for k, row in enumerate(back.listing()) if row[1] == "one"][at]
        self.assert_fails(InvalidRow(index), way_back, back)
        self.assert_fails(InvalidRow(index), way_back, back, 1)


if __name__ == "__main__":
    unittest.main()
