"""Polynomials of one and of two arguments: Curve and Sheet."""

import random
from fractions import Fraction

from bridge import fraction, ratio
from helpers import ANY_VALUES, Case
from unseenslopes.curves import Curve, Sheet
from unseenslopes.errors import InvalidNumber
from unseenslopes.forms import constant
from unseenslopes.ratios import Ratio

HALF = Ratio(1, 2)
NO_NUMBERS = [value for value in ANY_VALUES if isinstance(value, bool) or not isinstance(value, int)]
NO_POWERS = [*NO_NUMBERS, -1, -7, HALF, Ratio(2)]


def drawn(source):
    return Fraction(source.randint(-9, 9), source.randint(1, 5))


class TestCurve(Case):
    def test_example(self):
        curve = Curve([1, 0, 3])
        self.assertEqual([str(curve(2)), str(curve.slope_curve()), str(curve.integral_curve(1))], ["13", "0 6", "-2 1 0 1"])

    def test_worths(self):
        for worths, found, degree in [
            ([], [], -1), ([0], [], -1), ([0, 0, 0], [], -1), ([5], [5], 0), ([0, 1], [0, 1], 1), ([1, 0, 0], [1], 0),
            ([HALF, Ratio(0), -2, Ratio(0, 7)], [HALF, 0, -2], 2), (list(range(12)), list(range(12)), 11), ((1, 2), [1, 2], 1),
            ([Ratio(4, 2)], [2], 0), ([10 ** 30, 10 ** 29], [10 ** 30, 10 ** 29], 1),
        ]:
            curve = Curve(worths)
            self.assertEqual(curve.worths(), found)
            self.assertTrue(all(isinstance(worth, Ratio) for worth in curve.worths()))
            self.assertEqual(curve.degree_of, degree)
        self.assertEqual(Curve(worths=[3]).worths(), [3])

    def test_lists_are_copied(self):
        given = [1, 2]
        curve = Curve(given)
        self.assertEqual(given, [1, 2])
        given.append(3)
        given[0] = 9
        self.assertEqual(curve, Curve([1, 2]))
        curve.worths().append(7)
        curve.worths()[0] = 7
        self.assertEqual(str(curve), "1 2")
        given = [1, 0, 0]
        Curve(given)
        self.assertEqual(given, [1, 0, 0])

    def test_invalid_numbers(self):
        for value in [*NO_NUMBERS, "1", constant(1)]:
            self.assert_fails(InvalidNumber(value), Curve, [value])
            self.assert_fails(InvalidNumber(value), Curve, [1, HALF, value])
            self.assert_fails(InvalidNumber(value), Curve, (0, value, "later", None))
        self.assert_fails(InvalidNumber("a"), Curve, [1, "a", True, None])
        self.assert_fails(InvalidNumber(True), Curve, [0, True, "a"])

    def test_values(self):
        curve = Curve([1, HALF, 0, -2])
        for place, worth in [(0, 1), (1, Ratio(-1, 2)), (-1, Ratio(5, 2)), (HALF, 1), (Ratio(-2, 3), Ratio(34, 27)), (10, -1994)]:
            self.assertEqual(curve(place), worth)
            self.assertIsInstance(curve(place), Ratio)
        self.assertEqual(Curve([])(5), 0)
        self.assertIsInstance(Curve([])(5), Ratio)
        self.assertIsInstance(Curve([3])(5), Ratio)
        self.assertEqual(curve(place=2), -14)

    def test_slopes(self):
        curve = Curve([7, 1, HALF, 0, 2])
        texts = ["7 1 1/2 0 2", "1 1 0 8", "1 0 24", "0 48", "48", "", "", ""]
        for times, text in enumerate(texts):
            self.assertEqual(str(curve.slope_curve(times)), text)
            self.assertEqual(str(curve.slope_curve(times=times)), text)
        self.assertEqual(curve.slope_curve(), curve.slope_curve(1))
        self.assertEqual(curve.slope_curve(0), curve)
        self.assertIsInstance(curve.slope_curve(0), Curve)
        self.assertEqual(curve.slope_curve(10 ** 29).worths(), [])
        self.assertEqual(str(curve), texts[0])
        for value in NO_POWERS:
            self.assert_fails(InvalidNumber(value), curve.slope_curve, value)

    def test_integrals(self):
        curve = Curve([1, HALF, 0, -2])
        self.assertEqual(str(curve.integral_curve()), "0 1 1/4 0 -1/2")
        self.assertEqual(curve.integral_curve(0), curve.integral_curve())
        self.assertEqual(str(curve.integral_curve(begin=HALF)), "-17/32 1 1/4 0 -1/2")
        self.assertEqual(Curve([]).integral_curve(3), Curve([]))
        for begin in [0, 1, -3, HALF, Ratio(-7, 3)]:
            integral = curve.integral_curve(begin)
            self.assertEqual(integral(begin), 0)
            self.assertEqual(integral.slope_curve(), curve)

    def test_texts(self):
        for worths, text in [([], ""), ([0, 0], ""), ([1, 0, HALF], "1 0 1/2"), ([0, -1], "0 -1"), ([Ratio(-6, 4), 0], "-3/2")]:
            self.assertEqual(str(Curve(worths)), text)
            self.assertEqual(repr(Curve(worths)), f"Curve({text})")
        long = Curve([Ratio(10 ** 30, 7)])
        for _ in range(8):
            long = Curve([long(1) * long(1)])
        self.assertEqual(str(long), f"1{'0' * 7680}/{7 ** 256}")

    def test_equality(self):
        self.assertTrue(Curve([1, 2]) == Curve([Ratio(1), Ratio(4, 2), 0]))
        self.assertFalse(Curve([1, 2]) != Curve([1, 2]))
        for other in [Curve([1]), Curve([2, 1]), Curve([]), Curve([1, 2, 3]), Sheet([(0, 0, 1), (1, 0, 2)]), [1, 2], (1, 2), "1 2", "Curve(1 2)"]:
            self.assert_differ(Curve([1, 2]), other)
        for other in [Sheet([]), [], (), "", None, 0, False, Ratio(0), constant(0)]:
            self.assert_differ(Curve([]), other)
        for other in [5, Ratio(5), [5], "5", constant(5), Sheet([(0, 0, 5)])]:
            self.assert_differ(Curve([5]), other)

    def assert_differ(self, one, other):
        self.assertIs(one == other, False)
        self.assertIs(other == one, False)
        self.assertIs(one != other, True)
        self.assertIs(other != one, True)

    def test_against_fractions(self):
        source = random.Random(5)
        for _ in range(60):
            worths = [drawn(source) for _ in range(source.randint(0, 12))]
            curve = Curve([ratio(worth) for worth in worths])
            place, begin = drawn(source), drawn(source)
            self.assertEqual(fraction(curve(ratio(place))), sum(w * place ** k for k, w in enumerate(worths)))
            slope = sum(k * (k - 1) * w * place ** (k - 2) for k, w in enumerate(worths) if k > 1)
            self.assertEqual(fraction(curve.slope_curve(2)(ratio(place))), slope)
            integral = sum(w * (place ** (k + 1) - begin ** (k + 1)) / (k + 1) for k, w in enumerate(worths))
            self.assertEqual(fraction(curve.integral_curve(ratio(begin))(ratio(place))), integral)


class TestSheet(Case):
    def test_rows(self):
        for rows, told in [
            ([], []), ([(0, 0, 0)], []), ([(2, 0, Ratio(1, 3)), (0, 1, 2)], [(0, 1, 2), (2, 0, Ratio(1, 3))]),
            ([(1, 1, 2), (1, 1, 3)], [(1, 1, 5)]), ([(1, 1, 2), (0, 0, 1), (1, 1, -2)], [(0, 0, 1)]),
            ([(6, 6, HALF), (6, 6, HALF), (0, 6, 1), (6, 0, 1), (5, 7, 1)], [(0, 6, 1), (5, 7, 1), (6, 0, 1), (6, 6, 1)]),
            (((10, 2, 1), (9, 3, 1)), [(9, 3, 1), (10, 2, 1)]),
        ]:
            sheet = Sheet(rows)
            self.assertEqual(sheet.told_rows(), told)
            self.assertTrue(all(isinstance(row, tuple) and isinstance(row[2], Ratio) for row in sheet.told_rows()))
        self.assertEqual(Sheet(rows=[(1, 0, 1)]).told_rows(), [(1, 0, 1)])
        self.assertEqual(Sheet(Sheet([(1, 0, 1), (0, 1, HALF)]).told_rows()), Sheet([(0, 1, HALF), (1, 0, 1)]))

    def test_lists_are_copied(self):
        rows = [(1, 0, 2), (0, 0, 3)]
        sheet = Sheet(rows)
        self.assertEqual(rows, [(1, 0, 2), (0, 0, 3)])
        rows[0] = (5, 5, 5)
        rows.append((1, 1, 1))
        sheet.told_rows().clear()
        self.assertEqual(str(sheet), "0 0 3, 1 0 2")

    def test_invalid_numbers(self):
        for value in NO_POWERS:
            self.assert_fails(InvalidNumber(value), Sheet, [(value, 0, 1)])
            self.assert_fails(InvalidNumber(value), Sheet, [(0, 0, 1), (0, value, 1)])
            self.assert_fails(InvalidNumber(value), Sheet, [(value, "b", "c"), ("d", "e", "f")])
        for value in [*NO_NUMBERS, constant(1)]:
            self.assert_fails(InvalidNumber(value), Sheet, [(0, 0, value)])
            self.assert_fails(InvalidNumber(value), Sheet, [(0, 0, 1), (0, 2, value), (-1, 0, 0)])
        self.assert_fails(InvalidNumber(-2), Sheet, [(0, -2, "c"), ("d", 0, 0)])
        self.assert_fails(InvalidNumber("c"), Sheet, [(0, 2, "c"), ("d", 0, 0)])
        self.assert_fails(InvalidNumber(None), Sheet, [(0, 2, 1), (0, None, False)])

    def test_values(self):
        sheet = Sheet([(0, 0, 1), (2, 1, HALF), (0, 3, -1)])
        for one, other, worth in [(0, 0, 1), (1, 2, -6), (2, 1, 2), (HALF, -1, Ratio(15, 8)), (-3, Ratio(2, 3), Ratio(100, 27))]:
            self.assertEqual(sheet(one, other), worth)
            self.assertIsInstance(sheet(one, other), Ratio)
        self.assertEqual(sheet(other=2, one=1), -6)
        self.assertEqual(Sheet([])(3, 4), 0)
        self.assertIsInstance(Sheet([])(3, 4), Ratio)

    def test_slopes(self):
        sheet = Sheet([(0, 0, 1), (2, 1, HALF), (0, 3, -1), (1, 0, 4)])
        self.assertEqual(str(sheet.slope_sheet(0)), "0 0 4, 1 1 1")
        self.assertEqual(str(sheet.slope_sheet(1)), "0 2 -3, 2 0 1/2")
        self.assertEqual(sheet.slope_sheet(which=0).slope_sheet(1), sheet.slope_sheet(1).slope_sheet(0))
        self.assertEqual(Sheet([(0, 0, 7)]).slope_sheet(0), Sheet([]))
        self.assertEqual(Sheet([]).slope_sheet(1), Sheet([]))
        for value in [*NO_POWERS, 2, 3, 10 ** 40, (0,), (1, 0), Ratio(0), Ratio(1)]:
            self.assert_fails(InvalidNumber(value), sheet.slope_sheet, value)

    def test_swapped(self):
        sheet = Sheet([(0, 0, 1), (2, 1, HALF), (0, 3, -1)])
        self.assertEqual(str(sheet.swapped()), "0 0 1, 1 2 1/2, 3 0 -1")
        self.assertEqual(sheet.swapped().swapped(), sheet)
        self.assertEqual(sheet.swapped()(5, HALF), sheet(HALF, 5))
        self.assertEqual(Sheet([]).swapped(), Sheet([]))

    def test_texts(self):
        for rows, text in [([], ""), ([(2, 0, Ratio(1, 3)), (0, 1, 2)], "0 1 2, 2 0 1/3"), ([(1, 1, -1)], "1 1 -1"), ([(1, 1, 0)], "")]:
            self.assertEqual(str(Sheet(rows)), text)
            self.assertEqual(repr(Sheet(rows)), f"Sheet({text})")

    def test_equality(self):
        sheet = Sheet([(0, 1, 2), (1, 0, 1)])
        self.assertTrue(sheet == Sheet([(1, 0, Ratio(1)), (0, 1, 1), (0, 1, 1), (3, 3, 0)]))
        self.assertFalse(sheet != Sheet([(1, 0, 1), (0, 1, 2)]))
        for other in [sheet.swapped(), Sheet([]), Sheet([(0, 1, 2)]), Curve([0, 2]), [(0, 1, 2), (1, 0, 1)], "0 1 2, 1 0 1", None]:
            TestCurve.assert_differ(self, sheet, other)
        for other in [Curve([]), [], "", None, 0, Ratio(0), constant(0), {}]:
            TestCurve.assert_differ(self, Sheet([]), other)

    def test_against_fractions(self):
        source = random.Random(6)
        for _ in range(60):
            rows = [(source.randint(0, 6), source.randint(0, 6), drawn(source)) for _ in range(source.randint(0, 20))]
            sheet = Sheet([(i, j, ratio(worth)) for i, j, worth in rows])
            s, t = drawn(source), drawn(source)
            self.assertEqual(fraction(sheet(ratio(s), ratio(t))), sum(w * s ** i * t ** j for i, j, w in rows))
            slope = sum(i * j * w * s ** (i - 1) * t ** (j - 1) for i, j, w in rows if i and j)
            self.assertEqual(fraction(sheet.slope_sheet(0).slope_sheet(1)(ratio(s), ratio(t))), slope)


if __name__ == "__main__":
    import unittest
    unittest.main()
