"""Ratios and digits ([2], [3])."""

import unittest
from fractions import Fraction

from helpers import ANY_VALUES, Case
from unseenslopes.errors import InvalidNumber, InvalidText
from unseenslopes.ratios import Ratio

SOME = [Ratio(0), Ratio(1), Ratio(-1), Ratio(3, 4), Ratio(-3, 4), Ratio(7, -2), Ratio(10 ** 30 - 1, 10 ** 29)]


def fraction(number):
    return Fraction(number.top, number.bottom) if isinstance(number, Ratio) else Fraction(number)


class TestMaking(Case):
    def test_lowest_terms_with_a_bottom_above_0(self):
        for top in range(-12, 13):
            for bottom in [*range(-12, 0), *range(1, 13)]:
                made = Ratio(top, bottom)
                want = Fraction(top, bottom)
                self.assertEqual((made.top, made.bottom), (want.numerator, want.denominator))
                self.assertIs(type(made.top), int)
                self.assertIs(type(made.bottom), int)
                self.assertIs(made.whole, want.denominator == 1)

    def test_by_name_and_with_the_bottom_left_out(self):
        self.assertEqual(str(Ratio(bottom=-4, top=6)), "-3/2")
        self.assertEqual(str(Ratio(5)), "5")
        self.assertEqual(str(Ratio(top=5)), "5")

    def test_text_and_repr(self):
        rows = [(0, 5, "0"), (-3, 4, "-3/4"), (3, -4, "-3/4"), (-8, -4, "2"), (8, -4, "-2"), (1, 10 ** 30, "1/1" + "0" * 30)]
        for top, bottom, text in rows:
            self.assertEqual(str(Ratio(top, bottom)), text)
            self.assertEqual(repr(Ratio(top, bottom)), f"Ratio({text})")

    def test_text_of_numbers_of_any_size(self):
        top = Ratio(10 ** 30 - 1)
        for _ in range(8):
            top = top * top
        want = "1" + "0" * (30 * 256)
        near = top * 0 + Ratio(1)
        for _ in range(256):
            near = near * 10 ** 30
        self.assertEqual(str(near), want)
        self.assertEqual(str(-near), "-" + want)
        self.assertEqual(str(near - 1), "9" * (30 * 256))
        self.assertEqual(str(Ratio(1).over(near)), "1/" + want)
        self.assertEqual(repr(near), f"Ratio({want})")

    def test_wrong_values(self):
        for value in [None, True, False, "1", "", [1], (1,), Ratio(1), Ratio(1, 2)]:
            self.assert_fails(InvalidNumber(value), Ratio, value)
            self.assert_fails(InvalidNumber(value), Ratio, value, 0)
            self.assert_fails(InvalidNumber(value), Ratio, value, "x")
            self.assert_fails(InvalidNumber(value), Ratio, 1, value)
            self.assert_fails(InvalidNumber(value), Ratio, top=2, bottom=value)
        self.assert_fails(InvalidNumber(0), Ratio, 1, 0)
        self.assert_fails(InvalidNumber(0), Ratio, 0, 0)
        self.assert_fails(InvalidNumber(None), Ratio, None, None)


class TestArithmetic(Case):
    def test_against_fractions_on_either_side(self):
        numbers = [*SOME, 0, 1, -1, 6, 10 ** 30 - 1]
        for one in numbers:
            for other in numbers:
                if not isinstance(one, Ratio) and not isinstance(other, Ratio):
                    continue
                before = (str(one), str(other))
                results = [
                    (one + other, fraction(one) + fraction(other)),
                    (one - other, fraction(one) - fraction(other)),
                    (one * other, fraction(one) * fraction(other)),
                ]
                for made, want in results:
                    self.assertIs(type(made), Ratio)
                    self.assertEqual((made.top, made.bottom), (want.numerator, want.denominator))
                self.assertEqual((str(one), str(other)), before)

    def test_minus_and_abs(self):
        for one in SOME:
            before = str(one)
            self.assertIs(type(-one), Ratio)
            self.assertIs(type(abs(one)), Ratio)
            self.assertEqual(fraction(-one), -fraction(one))
            self.assertEqual(fraction(abs(one)), abs(fraction(one)))
            self.assertEqual(str(one), before)

    def test_over(self):
        for one in SOME:
            for other in [*SOME, 1, -6, 10 ** 30 - 1]:
                if fraction(other) != 0:
                    made = one.over(other)
                    self.assertIs(type(made), Ratio)
                    self.assertEqual(fraction(made), fraction(one) / fraction(other))
        self.assertEqual(str(Ratio(1, 2).over(other=-3)), "-1/6")

    def test_over_what_is_no_number_or_0(self):
        for value in [None, True, False, "1", [1], (), 0]:
            self.assert_fails(InvalidNumber(value), Ratio(1, 2).over, value)
            self.assert_fails(InvalidNumber(value), Ratio(0).over, other=value)
        zero = Ratio(0)
        self.assert_fails(InvalidNumber(zero), Ratio(1).over, zero)

    def test_equality(self):
        self.assertTrue(Ratio(2, 4) == Ratio(1, 2))
        self.assertFalse(Ratio(2, 4) != Ratio(1, 2))
        self.assertFalse(Ratio(1, 2) == Ratio(-1, 2))
        self.assertTrue(Ratio(4, 2) == 2)
        self.assertTrue(2 == Ratio(4, 2))
        self.assertTrue(Ratio(0) == 0)
        self.assertFalse(Ratio(1, 2) == 1)
        self.assertFalse(Ratio(1, 2) == 0)
        for value in [None, True, False, "1", "0", [1], (1,), 1.0, Fraction(1)]:
            self.assertFalse(Ratio(1) == value)
            self.assertFalse(Ratio(0) == value)
            self.assertTrue(Ratio(1) != value)


class TestReading(Case):
    def test_texts(self):
        rows = [
            ("0", "0"), ("-0", "0"), ("0/7", "0"), ("-0/7", "0"), ("5", "5"), ("-5", "-5"), ("10", "10"),
            ("3/4", "3/4"), ("-6/8", "-3/4"), ("8/4", "2"), ("5/1", "5"), ("100/10", "10"),
            ("9" * 30, "9" * 30), ("-" + "9" * 30 + "/1" + "0" * 29, "-" + "9" * 30 + "/1" + "0" * 29),
        ]
        for text, want in rows:
            made = Ratio.read(text)
            self.assertIs(type(made), Ratio)
            self.assertEqual(str(made), want)
        self.assertEqual(str(Ratio.read(text="1/2")), "1/2")

    def test_texts_are_read_back(self):
        for one in SOME:
            self.assertEqual(Ratio.read(str(one)), one)
        for top in range(-9, 10):
            for bottom in range(1, 10):
                self.assertEqual(Ratio.read(f"{top}/{bottom}"), Ratio(top, bottom))
                self.assertEqual(Ratio.read(str(Ratio(top, bottom))), Ratio(top, bottom))

    def test_every_other_value(self):
        wrong = [
            "", " ", "-", "--1", "+1", "1 ", " 1", "- 1", "01", "00", "-01", "1/", "/2", "1/0", "0/0", "1/02", "1/00",
            "1/-2", "-1/-2", "1//2", "1/2/3", "1.0", "1e3", "x", "1x", "1\n", "1_0", "\u0663", "1/ 2", "1 /2",
            "1" * 31, "1/" + "1" * 31, "-" + "0" * 30, "9" * 6000,
        ]
        for text in wrong:
            self.assert_fails(InvalidText(0), Ratio.read, text)
        for value in ANY_VALUES:
            self.assert_fails(InvalidText(0), Ratio.read, value)
        for value in [Ratio(1), b"1", 10 ** 5000]:
            self.assert_fails(InvalidText(0), Ratio.read, value)


if __name__ == "__main__":
    unittest.main()
