"""Conditions for blanks: fill, Filling and NoFilling ([15])."""

import random
import unittest
from fractions import Fraction

import oracle
from bridge import fraction, package_witness, random_fact, ratio
from helpers import ANY_VALUES, Case
from unseenslopes.blanks import Filling, NoFilling, fill
from unseenslopes.errors import InvalidNumber, UnknownName, UnlikeWorlds
from unseenslopes.programs import Program
from unseenslopes.ratios import Ratio
from unseenslopes.unseen import Unseen, World
from unseenslopes.verdicts import compare, compare_near

HALF = Ratio(1, 2)
WORLD = World(["x", "y", "h"], {"f": Unseen(), "e": Unseen(mirror="even", centre=1), "g": Unseen(2, swap="minus")})
OTHER = World(["x", "y", "h"], {"f": Unseen(), "e": Unseen(mirror="even"), "g": Unseen(2, swap="minus")})
NO_INPUTS = [value for value in ANY_VALUES if value != "x"] + ["f", "g", "z", ["h"], ("x",), Ratio(1)]
NO_POWERS = [value for value in ANY_VALUES if value is True or not (isinstance(value, int) and 1 <= value <= 6)] + [7, 0, -1, Ratio(2), False]


def made(text, world=WORLD):
    return Program(world, text)


def rank_of(rows):
    """The number of independent rows of fractions."""
    rows = [list(row) for row in rows]
    rank = 0
    for column in range(len(rows[0]) if rows else 0):
        pivot = next((row for row in rows[rank:] if row[column]), None)
        if pivot is None:
            continue
        rows.remove(pivot)
        rows.insert(rank, pivot)
        for at, row in enumerate(rows):
            if at > rank and row[column]:
                factor = row[column] / pivot[column]
                rows[at] = [a - factor * b for a, b in zip(row, pivot)]
        rank += 1
    return rank


def sampled_rows(one, other, many, source, **near):
    """Conditions that are found at drawn witnesses alone: rows of the numbers of the blanks and the number."""
    world = one.world
    rows = []
    for _ in range(many + 6):
        found = oracle.Witness(world, source)
        if near:
            found.numbers[near["name"]] = Fraction(0)
        witness = package_witness(world, found)

        def answer(numbers, order):
            left, right = one.filled(numbers), other.filled(numbers)
            if near:
                name = near["name"]
                return fraction(witness.slope_answer(left, name, order) - witness.slope_answer(right, name, order))
            return fraction(witness.answer(left) - witness.answer(right))
        for order in range(near.get("power", 1)):
            number = answer([0] * many, order)
            row = [answer([0] * at + [1] + [0] * (many - at - 1), order) - number for at in range(many)]
            rows.append([*row, number])
    return rows


class BlanksCase(Case):
    def check(self, one, other, source=None, many=None, **near):
        """Asks that the result tells all solutions of the conditions at drawn witnesses, and that it holds."""
        if many is None:
            many = max([0, *one.blanks(), *other.blanks()])
        result = fill(one, other, **near)
        self.assertIs(result.holds(), True, (one, other))
        self.assertEqual((result.one, result.other), (one, other))
        self.assertEqual((result.name, result.power), (near.get("name"), near.get("power")))
        rows = sampled_rows(one, other, many, source or random.Random(9), **near)
        known = rank_of([row[:-1] for row in rows])
        if rank_of(rows) > known:
            self.check_barred(result, near)
        else:
            self.check_filled(result, rows, many, near)
        return result

    def check_barred(self, result, near):
        self.assertIs(type(result), NoFilling)
        self.assertEqual((result.KIND, NoFilling.KIND), ("barred", "barred"))
        rows = result.weights()
        self.assertGreater(len(rows), 0)
        keys = [(order, text) for order, text, _ in rows]
        self.assertEqual(keys, sorted(set(keys)))
        for row in rows:
            self.assertIsInstance(row, tuple)
            self.assertIsInstance(row[2], Ratio)
            self.assertNotEqual(row[2], 0)
            self.assertIn(row[0], range(near.get("power", 1)))
            self.assertNotIn("?", row[1])
        self.assertEqual(repr(result), f"NoFilling({len(rows)} weights)")

    def check_filled(self, result, rows, many, near):
        self.assertIs(type(result), Filling)
        self.assertEqual((result.KIND, Filling.KIND), ("filled", "filled"))
        point, directions = result.point(), result.directions()
        self.assertEqual(len(point), many)
        for numbers in (point, *directions):
            self.assertEqual(len(numbers), many)
            self.assertTrue(all(isinstance(number, Ratio) for number in numbers))
        columns = [[row[at] for row in rows] for at in range(many)]
        free = [at for at in range(many) if rank_of(columns[:at + 1]) == rank_of(columns[:at])]
        self.assertEqual(len(directions), len(free))
        self.assertTrue(all(point[at] == 0 for at in free))
        for at, direction in zip(free, directions):
            self.assertEqual([direction[other] for other in free], [int(other == at) for other in free])
        for row in rows:
            self.assertEqual(sum((worth * fraction(n) for worth, n in zip(row, point)), row[-1]), 0)
            for direction in directions:
                self.assertEqual(sum(worth * fraction(n) for worth, n in zip(row, direction)), 0)
        self.assertEqual(repr(result), f"Filling({many} blanks, {len(directions)} directions)")
        left, right = result.programs(*range(1, len(directions) + 1))
        verdict = compare_near(left, right, **near) if near else compare(left, right)
        self.assertTrue(verdict)


class TestExamples(BlanksCase):
    def test_trapezium(self):
        world = World(["x", "h"], {"f": Unseen()})
        formula, area = made("h * (?1 * f(x) + ?2 * f(x + h))", world), made("integral(x, x + h, f)", world)
        one, other = fill(formula, area, name="h", power=3).point()
        self.assertEqual([str(one), str(other)], ["1/2", "1/2"])
        self.assertEqual(repr(fill(formula, area, name="h", power=2)), "Filling(2 blanks, 1 directions)")
        self.assertEqual(fill(formula, area, name="h", power=2).point(), [1, 0])
        self.assertEqual(fill(formula, area, name="h", power=2).directions(), [[-1, 1]])
        self.assertEqual(fill(formula, area, name="h", power=1).directions(), [[1, 0], [0, 1]])
        for power in range(1, 7):
            self.check(formula, area, name="h", power=power)
        self.assertIs(type(fill(formula, area, name="h", power=4)), NoFilling)
        self.assertIs(type(self.check(formula, area)), NoFilling)

    def test_simpson(self):
        formula, area = made("h * (?1 * f(x) + ?2 * f(x + 1/2 * h) + ?3 * f(x + h))"), made("integral(x, x + h, f)")
        filling = self.check(formula, area, name="h", power=4)
        self.assertEqual(filling.point(), [Ratio(1, 6), Ratio(2, 3), Ratio(1, 6)])
        self.assertEqual(self.check(formula, area, name="h", power=5).point(), [Ratio(1, 6), Ratio(2, 3), Ratio(1, 6)])
        self.assertEqual(self.check(formula, area, name="h", power=6).KIND, "barred")

    def test_differences(self):
        slope = made("h * h * f[2](x)")
        formula = made("?1 * f(x - h) + ?2 * f(x) + ?3 * f(x + h)")
        for power in (3, 4):
            self.assertEqual(self.check(formula, slope, name="h", power=power).point(), [1, -2, 1])
        self.assertEqual(self.check(formula, slope, name="h", power=5).KIND, "barred")
        six = made("?1 * f(x) + ?2 * f(x + h) + ?3 * f(x + 2 * h) + ?4 * f(x - h) + ?5 * f(x - 2 * h) + ?6 * h * f[1](x)")
        filling = self.check(six, made("h * h * f[2](x)"), name="h", power=5)
        self.assertEqual(len(filling.directions()), 1)
        self.assertEqual(filling.point(), [Ratio(-5, 2), Ratio(4, 3), Ratio(-1, 12), Ratio(4, 3), Ratio(-1, 12), 0])


class TestFill(BlanksCase):
    def test_no_blanks(self):
        filling = self.check(made("f(x) * 2"), made("f(x) + f(x)"))
        self.assertEqual((filling.point(), filling.directions(), repr(filling)), ([], [], "Filling(0 blanks, 0 directions)"))
        self.assertEqual(filling.programs(), (made("f(x) * 2"), made("f(x) + f(x)")))
        self.assertEqual(filling.programs(1, HALF), filling.programs())
        barred = self.check(made("f(x) * 2"), made("f(x)"))
        self.assertEqual(barred.weights(), [(0, "f(x)", 1)])
        self.assertEqual(self.check(made("3"), made("1")).weights(), [(0, "", HALF)])
        self.check(made("f(x + h)"), made("f(x) + h * f[1](x)"), name="h", power=2)
        self.assertEqual(self.check(made("f(x + h)"), made("f(x)"), name="h", power=2).weights(), [(1, "f[1](x)", 1)])

    def test_one_blank(self):
        for one, other, point in [
            ("?1", "3", [3]), ("?1 * f(x)", "1/2 * f(x)", [HALF]), ("2 * ?1 - 4", "0", [2]), ("f(x)", "f(x) * ?1", [1]), ("?1 * x", "?1 * x + 2 * x - x * ?1", [2]),
            ("-?1", "7/3", [Ratio(-7, 3)]), ("(?1 + 1) * y", "0", [-1]), ("?1 * e(x)", "e(2 - x)", [1]), ("g(x, y)", "?1 * g(y, x)", [-1]), ("?1 * x", "0", [0]),
        ]:
            filling = self.check(made(one), made(other))
            self.assertEqual((filling.point(), filling.directions()), (point, []))

    def test_blanks_that_are_left_out(self):
        filling = self.check(made("?3 * x + ?5 * y"), made("2 * x"))
        self.assertEqual(filling.point(), [0, 0, 2, 0, 0])
        self.assertEqual(filling.directions(), [[1, 0, 0, 0, 0], [0, 1, 0, 0, 0], [0, 0, 0, 1, 0]])
        self.assertEqual(repr(filling), "Filling(5 blanks, 3 directions)")
        self.assertEqual(self.check(made("x"), made("x + ?2 * 0")).directions(), [[1, 0], [0, 1]])
        self.assertEqual(len(self.check(made("?6"), made("?6")).directions()), 6)
        self.assertEqual(self.check(made("?1"), made("?4")).point(), [0, 0, 0, 0])
        self.assertEqual(self.check(made("?1"), made("?4")).directions(), [[0, 1, 0, 0], [0, 0, 1, 0], [1, 0, 0, 1]])

    def test_blanks_that_are_free(self):
        filling = self.check(made("?1 * x + ?2 * x + ?3 * (x + y) + ?4 * y"), made("5 * x - y"))
        self.assertEqual(filling.point(), [6, 0, -1, 0])
        self.assertEqual(filling.directions(), [[-1, 1, 0, 0], [1, 0, -1, 1]])
        filling = self.check(made("?1 * f(x) - ?2 * f(x)"), made("(?3 - ?1) * f(x) + ?4"))
        self.assertEqual(filling.point(), [0, 0, 0, 0])
        self.assertEqual(filling.directions(), [[HALF, 1, 0, 0], [HALF, 0, 1, 0]])

    def test_conditions_that_cannot_be_kept(self):
        for one, other in [
            ("?1 * x", "y"), ("?1", "x"), ("?1 * x + ?2 * y", "x * y"), ("?1 * (x + y)", "x - y"), ("f(x)", "?1 * f(y) + ?2 * f(f(x))"),
            ("?1 * x + ?2 * x", "?1 * x + ?2 * x + 1"), ("x - x", "?1 * 0 + 3"), ("?1 * (f(x) + 1) + ?2 * (f(x) - 1)", "f(x) + y"),
        ]:
            self.assertIs(type(self.check(made(one), made(other))), NoFilling)
        barred = fill(made("?1 * (x + y) + ?2 * x"), made("x * y + ?2 * x - 3"))
        self.assertEqual(type(barred), NoFilling)
        self.assertIs(barred.holds(), True)

    def test_random_programs(self):
        source = random.Random(61)
        kinds = set()
        for _ in range(120):
            world = World(["x", "h"], {"f": random_fact(source), "e": random_fact(source), "g": Unseen(2, swap=source.choice([None, "same", "minus"]))})
            many = source.randint(1, 6)
            parts = ["f(x)", "f(x + h)", "f(x - h)", "e(h)", "e(x) * h", "x", "h", "1", "x * h", "g(x, h)", "g(h, x)", "f[1](x) * h", "integral(x, x + h, f)"]
            pool = source.sample(parts, source.randint(2, 5))

            def text(blanks):
                products = [f"{source.randint(-3, 3)} * {source.choice(pool)}" for _ in range(source.randint(1, 3))]
                products += [f"?{blank} * ({source.choice(pool)} + {source.randint(0, 2)} * {source.choice(pool)})" for blank in blanks]
                source.shuffle(products)
                return " - ".join(products)
            blanks = [source.randint(1, many) for _ in range(source.randint(1, 7))]
            at = source.randint(0, len(blanks))
            one, other = made(text(blanks[:at]), world), made(text(blanks[at:]), world)
            near = source.choice([{}, {}, {"name": "h", "power": source.randint(1, 4)}, {"name": "x", "power": 2}])
            kinds.add((self.check(one, other, source, **near).KIND, bool(near)))
        self.assertEqual(len(kinds), 4)

    def test_errors(self):
        one, blank, alien = made("x"), made("?1 + x"), made("?1", OTHER)
        self.assert_fails(UnlikeWorlds(), fill, blank, alien)
        self.assert_fails(UnlikeWorlds(), fill, alien, one, name="z", power=0)
        for value in NO_INPUTS:
            self.assert_fails(UnlikeWorlds(), fill, one, alien, name=value, power=0)
            if value is not None:
                self.assert_fails(UnknownName(value), fill, one, blank, name=value)
            self.assert_fails(UnknownName(value), fill, one, blank, name=value, power=0)
            self.assert_fails(UnknownName(value), fill, one, blank, name=value, power=2)
        for value in NO_POWERS:
            self.assert_fails(InvalidNumber(value), fill, one, blank, name="h", power=value)
        self.assert_fails(InvalidNumber(None), fill, one, blank, name="h")
        self.assert_fails(UnknownName(None), fill, one, blank, power=2)
        self.assertEqual(fill(one, blank, name=None, power=None).point(), [0])
        with self.assertRaises(TypeError):
            fill(one, blank, "h", 2)


class TestFilling(BlanksCase):
    def test_parts(self):
        one, other = made("?1 * x + ?2"), made("x")
        point, directions = [1, HALF], [[0, 1], [2, 3]]
        filling = Filling(one, other, point, directions)
        self.assertEqual((filling.one, filling.other, filling.name, filling.power), (one, other, None, None))
        self.assertEqual((filling.point(), filling.directions()), ([1, HALF], [[0, 1], [2, 3]]))
        self.assertEqual(repr(filling), "Filling(2 blanks, 2 directions)")
        near = Filling(one, other, directions=(), point=(1, 0), name="h", power=3)
        self.assertEqual((near.name, near.power, near.point(), near.directions()), ("h", 3, [1, 0], []))
        point.append(9)
        directions[0].append(9)
        directions.append([])
        filling.point().clear()
        filling.directions()[0].clear()
        filling.directions().clear()
        self.assertEqual((filling.point(), filling.directions()), ([1, HALF], [[0, 1], [2, 3]]))
        with self.assertRaises(TypeError):
            Filling(one, other, point, directions, "h", 3)

    def test_programs(self):
        one, other = made("?1 * x + ?3 * y"), made("f(x) * ?2")
        filling = Filling(one, other, [1, HALF, -2], [[0, 1, 0], [2, 0, Ratio(-1, 3)]])
        for multiples, texts in [
            ((), ("1 * x + -2 * y", "f(x) * 1/2")), ((3,), ("1 * x + -2 * y", "f(x) * 7/2")), ((0, 1), ("3 * x + -7/3 * y", "f(x) * 1/2")),
            ((HALF, Ratio(3)), ("7 * x + -3 * y", "f(x) * 1")), ((1, 1, 5, 6), ("3 * x + -7/3 * y", "f(x) * 3/2")), ((0, HALF), ("2 * x + -13/6 * y", "f(x) * 1/2")),
        ]:
            found = filling.programs(*multiples)
            self.assertIsInstance(found, tuple)
            self.assertEqual(tuple(program.text for program in found), texts)
            self.assertEqual([program.world for program in found], [WORLD, WORLD])
        self.assertEqual(filling.point(), [1, HALF, -2])

    def test_holds(self):
        one, other = made("?1 * x + ?2 * x"), made("3 * x")
        for point, directions, holds in [
            ([3, 0], [[-1, 1]], True), ([3, 0], [], True), ([1, 2], [[HALF, Ratio(-1, 2)], [5, -5]], True), ([3, 1], [[-1, 1]], False),
            ([3, 0], [[-1, 1], [1, 0]], False), ([3, 0], [[0, 1]], False), ([0, 0], [[1, 2]], False), ([0, 3], [[0, 0]], True),
        ]:
            self.assertIs(Filling(one, other, point, directions).holds(), holds, (point, directions))
        self.assertIs(Filling(one, made("3 * x", OTHER), [3, 0], []).holds(), False)
        formula, area = made("h * (?1 * f(x) + ?2 * f(x + h))"), made("integral(x, x + h, f)")
        for power, point, directions, holds in [
            (3, [HALF, HALF], [], True), (4, [HALF, HALF], [], False), (2, [1, 0], [[-1, 1]], True), (2, [0, 1], [[-1, 1], [3, -3]], True),
            (3, [HALF, HALF], [[-1, 1]], False), (2, [1, 1], [], False), (1, [7, 8], [[9, 10]], True),
        ]:
            self.assertIs(Filling(formula, area, point, directions, name="h", power=power).holds(), holds, (power, point, directions))

    def test_programs_beyond_the_limits_of_texts(self):
        text = "+".join(["?1*x"] * 110)
        program = made(f"{text} + ?2 * f(x)")
        self.assertGreater(len(program.text), 600)
        filling = self.check(program, made("11 * x"))
        self.assertEqual(filling.point(), [Ratio(1, 10), 0])
        deep = made("(" * 11 + "-?1*x" + ")" * 11).filled([-HALF])
        self.assertEqual(fill(deep, made("?1 * x")).point(), [HALF])
        big = fill(made("?1 * x"), made(f"{'9' * 30} * {'8' * 30} * x"))
        self.assertIs(big.holds(), True)
        self.assertGreater(len(big.programs()[0].text), 60)
        self.assertEqual(fill(big.programs()[0], made("?2 * x")).point(), [0, big.point()[0]])


class TestNoFilling(BlanksCase):
    def test_parts(self):
        one, other = made("?1 * x"), made("y")
        weights = [(0, "y", -1)]
        barred = NoFilling(one, other, weights)
        self.assertEqual((barred.one, barred.other, barred.name, barred.power), (one, other, None, None))
        self.assertEqual((barred.weights(), repr(barred)), ([(0, "y", -1)], "NoFilling(1 weights)"))
        near = NoFilling(one, other, weights=(), name="h", power=2)
        self.assertEqual((near.name, near.power, near.weights(), repr(near)), ("h", 2, [], "NoFilling(0 weights)"))
        weights.clear()
        barred.weights().append(3)
        self.assertEqual(barred.weights(), [(0, "y", -1)])
        with self.assertRaises(TypeError):
            NoFilling(one, other, weights, "h", 2)

    def test_holds(self):
        one, other = made("?1 * (x + y) + ?2 * f(x)"), made("x - y + 2 * f(x)")
        for weights, holds in [
            ([(0, "x", Ratio(-1, 2)), (0, "y", HALF)], True), ([(0, "y", HALF), (0, "x", Ratio(-1, 2))], True), ([], False),
            ([(0, "x", -1), (0, "y", 1)], False), ([(0, "x", Ratio(-1, 2)), (0, "y", HALF), (0, "f(x)", 0)], True),
            ([(0, "x", Ratio(-1, 2)), (0, "y", HALF), (0, "f(x)", 1)], False), ([(0, "x", -1)], False), ([(0, "y", 1)], False),
            ([(0, "x", Ratio(-1, 2)), (0, "y", HALF), (0, "", 0)], False), ([(1, "x", Ratio(-1, 2)), (0, "y", HALF)], False),
            ([(0, "x", Ratio(-1, 4)), (0, "x", Ratio(-1, 4)), (0, "y", HALF)], True), ([(0, "?1*x", 1)], False),
            ([(False, "x", Ratio(-1, 2)), (0, "y", HALF)], False), ([(None, "x", 1)], False), ([([], "x", 1)], False), ([(0, [], 1)], False),
            ([(0, None, 1)], False), ([(0, "x", Ratio(-1, 2)), (0, "y", None)], False), ([(0, "x", Ratio(-1, 2)), (0, "y", True)], False),
            ([(0, "x ", Ratio(-1, 2)), (0, "y", HALF)], False),
        ]:
            self.assertIs(NoFilling(one, other, weights).holds(), holds, weights)
        self.assertIs(NoFilling(one, made("x - y", OTHER), [(0, "x", Ratio(-1, 2)), (0, "y", HALF)]).holds(), False)

    def test_holds_near(self):
        formula, area = made("h * (?1 * f(x) + ?2 * f(x + h))"), made("integral(x, x + h, f)")
        weights = [(2, "f[1](x)", -3), (3, "f[2](x)", 2)]
        self.assertIs(NoFilling(formula, area, weights, name="h", power=4).holds(), True)
        self.assertIs(NoFilling(formula, area, weights, name="h", power=3).holds(), False)
        self.assertIs(NoFilling(formula, area, weights).holds(), False)
        self.assertIs(NoFilling(formula, area, [(2, "f[1](x)", -3), (3, "f[2](x)", 3)], name="h", power=4).holds(), False)
        told = fill(formula, area, name="h", power=4).weights()
        self.assertIs(NoFilling(formula, area, told, name="h", power=4).holds(), True)
        for at, (order, text, weight) in enumerate(told):
            self.assertIs(NoFilling(formula, area, told[:at] + told[at + 1:], name="h", power=4).holds(), False)
            changed = [*told[:at], (order, text, weight + 1), *told[at + 1:]]
            self.assertIs(NoFilling(formula, area, changed, name="h", power=4).holds(), False)


if __name__ == "__main__":
    unittest.main()
