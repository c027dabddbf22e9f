"""Programs: the text that is kept, blanks, filled, renamed and in_world ([8], [9])."""

import unittest

from helpers import ANY_VALUES, Case
from unseenslopes.errors import (
    InvalidBlank, InvalidNumber, InvalidText, NameTaken, TooLarge, UnknownName, WrongKind,
)
from unseenslopes.meaning import meaning
from unseenslopes.programs import Program
from unseenslopes.ratios import Ratio
from unseenslopes.unseen import Unseen, World

WORLD = World(["x", "y"], {"f": Unseen(), "g": Unseen(2), "h": Unseen(mirror="odd"), "k": Unseen(2, swap="same")})


def program(text):
    return Program(WORLD, text)


class TestKeptTexts(Case):
    def test_texts(self):
        rows = [
            # spaces
            ("x+y-x*y", "x + y - x * y"), ("  x  +  y  ", "x + y"), ("let a=1;let b=a;a*b", "let a = 1; let b = a; a * b"),
            ("- x", "-x"), ("x*- y", "x * -y"), ("x - - y", "x - -y"), ("g( x ,y )", "g(x, y)"), ("g[ 1 , 2 ](x,y)", "g[1,2](x, y)"),
            ("f [ 2 ] (x)", "f[2](x)"), ("(fn  t:t)(x)", "(fn t: t)(x)"), ("(fn @ p:p(x))(f)", "(fn @p: p(x))(f)"),
            ("integral(x,y,f)", "integral(x, y, f)"), ("slope ( f ) ( x )", "slope(f)(x)"),
            # Ratios and needless numbers of slopes
            ("4/6", "2/3"), ("0/7", "0"), ("7/1", "7"), ("x * 10/5", "x * 2"), ("g[0,0](x, y)", "g(x, y)"), ("f[0](x)", "f[0](x)"),
            ("g[0,1](x, y)", "g[0,1](x, y)"), ("g[1,0](x, y)", "g[1,0](x, y)"), ("?1", "?1"),
            # parentheses in sums
            ("(x)", "x"), ("((x))", "x"), ("(x + y)", "x + y"), ("(x + y) + x", "x + y + x"), ("x + (y + x)", "x + (y + x)"),
            ("x - (y - x)", "x - (y - x)"), ("(x - y) - x", "x - y - x"), ("x + (y * x)", "x + y * x"), ("(x * y) + x", "x * y + x"),
            ("x + (-y)", "x + -y"), ("(-x) + y", "-x + y"), ("((x + y) + (x)) + y", "x + y + x + y"), ("(x) + (y)", "x + y"),
            # in products
            ("(x * y) * x", "x * y * x"), ("x * (y * x)", "x * (y * x)"), ("(x + y) * x", "(x + y) * x"), ("x * (x + y)", "x * (x + y)"),
            ("(-x) * y", "-x * y"), ("x * (-y)", "x * -y"), ("(-x * y) * x", "-x * y * x"), ("x * (-y * x)", "x * (-y * x)"),
            ("(2) * (1/2)", "2 * 1/2"), ("(f(x)) * (y)", "f(x) * y"),
            # behind minus signs
            ("-(x)", "-x"), ("-(-x)", "-(-x)"), ("-(x + y)", "-(x + y)"), ("-(x * y)", "-(x * y)"), ("-(f(x))", "-f(x)"),
            ("-(-(-x))", "-(-(-x))"), ("-((x))", "-x"), ("-(2)", "-2"), ("-(integral(x, y, f))", "-integral(x, y, f)"),
            # in calls
            ("(f)(x)", "f(x)"), ("f((x))", "f(x)"), ("f((x + y))", "f(x + y)"), ("f(-(x))", "f(-x)"), ("(f[1])(x)", "f[1](x)"),
            ("(slope(f))(x)", "slope(f)(x)"), ("slope((f))(x)", "slope(f)(x)"), ("((fn t: t))(x)", "(fn t: t)(x)"),
            ("slope((fn t: t))(x)", "slope(fn t: t)(x)"), ("((fn t: fn s: t)(x))(y)", "(fn t: fn s: t)(x)(y)"),
            ("(fn t: (fn s: t))(x)(y)", "(fn t: fn s: t)(x)(y)"), ("(fn t: (t + 1))(x)", "(fn t: t + 1)(x)"),
            ("(fn @p: p(x))((fn t: t))", "(fn @p: p(x))(fn t: t)"), ("(fn @p: p(x))((f))", "(fn @p: p(x))(f)"),
            ("(((f)(x)))", "f(x)"), ("g((x), (y + 1))", "g(x, y + 1)"), ("integral((x), (x + y), f)", "integral(x, x + y, f)"),
            ("let a = (fn t: t); (a)(x)", "let a = fn t: t; a(x)"), ("let a = (x + y); a * (a)", "let a = x + y; a * a"),
            ("(slope(fn t: fn s: t * s)(x))(y)", "slope(fn t: fn s: t * s)(x)(y)"),
        ]
        for text, kept in rows:
            made = program(text)
            self.assertEqual(made.text, kept)
            self.assertEqual(str(made), kept)
            self.assertEqual(repr(made), f"Program({kept})")
            self.assertIs(made.world, WORLD)
            again = program(kept)
            self.assertEqual(again.text, kept)
            self.assertEqual(meaning(again), meaning(made))

    def test_by_name(self):
        self.assertEqual(Program(text="x", world=WORLD).text, "x")

    def test_equality(self):
        self.assertTrue(program("x+y") == program("(x) + y"))
        self.assertFalse(program("x+y") != program("(x) + y"))
        self.assertFalse(program("x + y") == program("y + x"))
        other = World(["x", "y"], {})
        self.assertFalse(Program(other, "x") == program("x"))
        self.assertTrue(Program(other, "x") == Program(World(["x", "y"], {}), "x"))
        for value in [*ANY_VALUES, "x"]:
            self.assertFalse(program("x") == value)
            self.assertTrue(program("x") != value)


class TestBlanks(Case):
    def test_blanks(self):
        rows = [
            ("x", []), ("?1", [1]), ("?6 * x + ?2 - ?6 * y", [2, 6]), ("-(?3 + x * ?1)", [1, 3]), ("let a = 1; ?4 * a", [4]),
            ("?6 + ?5 + ?4 + ?3 + ?2 + ?1", [1, 2, 3, 4, 5, 6]), ("?2 + ?2", [2]),
        ]
        for text, blanks in rows:
            made = program(text)
            self.assertEqual(made.blanks(), blanks)
            made.blanks().append(9)
            self.assertEqual(made.blanks(), blanks)

    def test_filled(self):
        rows = [
            ("?1 * x", [2], "2 * x"), ("?1 * x", [Ratio(-1, 2)], "-1/2 * x"), ("x * ?1", [-2], "x * -2"), ("x - ?1", [-3], "x - -3"),
            ("x + ?1", [-3], "x + -3"), ("?1", [-3], "-3"), ("?1", [0], "0"), ("-?1", [2], "-2"), ("-?1", [-2], "-(-2)"),
            ("-?1 * x", [-2], "-(-2) * x"), ("-(?1 + x)", [-2], "-(-2 + x)"), ("(x + y) * ?1", [Ratio(2, 3)], "(x + y) * 2/3"),
            ("?1 + ?2", [1], "1 + ?2"), ("?1 + ?2", [], "?1 + ?2"), ("?1 + ?2", [1, 2, 3, 4], "1 + 2"), ("?2", [1], "?2"),
            ("?2 * x", [1, -1], "-1 * x"), ("?6", [1, 2, 3, 4, 5, Ratio(-7, 2), 7], "-7/2"), ("?1 + ?1 * y", [-1], "-1 + -1 * y"),
            ("let a = f(x); a * ?1", (5,), "let a = f(x); a * 5"), ("x", [1, 2], "x"), ("x * (y * ?1)", [-1], "x * (y * -1)"),
        ]
        for text, numbers, want in rows:
            made = program(text)
            filled = made.filled(numbers)
            self.assertIsInstance(filled, Program)
            self.assertEqual(filled.text, want)
            self.assertEqual(filled, program(want))
            self.assertEqual(filled.blanks(), [blank for blank in made.blanks() if blank > len(numbers)])
            self.assertEqual(meaning(filled), meaning(program(want)))
            self.assertEqual(made.text, text)
            self.assertIs(filled.world, WORLD)
        self.assertEqual(program("?1").filled(numbers=[4]).text, "4")

    def test_filled_twice(self):
        made = program("?1 * x + ?2 * y").filled([-1])
        self.assertEqual(made.text, "-1 * x + ?2 * y")
        self.assertEqual(made.filled([7, -2]).text, "-1 * x + -2 * y")
        self.assertEqual(str(meaning(made.filled([7, -2]))), "-x - 2*y")

    def test_what_is_no_number(self):
        for value in [None, True, False, "1", "", [1], (1,)]:
            self.assert_fails(InvalidNumber(value), program("?1 + ?2").filled, [value])
            self.assert_fails(InvalidNumber(value), program("x").filled, [1, value, "x"])
            self.assert_fails(InvalidNumber(value), program("?1").filled, [1, Ratio(1, 2), 3, 4, 5, 6, 7, value])

    def test_filled_texts_beyond_the_limits(self):
        long = "?1" + " + ?1" * 119
        self.assertEqual(len(long), 597)
        filled = program(long).filled([-(10 ** 30 - 1)])
        self.assertEqual(len(filled.text), 120 * 31 + 119 * 3)
        self.assertEqual(str(meaning(filled)), "-" + str(120 * (10 ** 30 - 1)))
        self.assert_fails(TooLarge("text", 600), filled.in_world, WORLD)

    def test_filled_depth_beyond_the_limit(self):
        made = program("2 * (" * 11 + "-?1" + ")" * 11)
        filled = made.filled([-3])
        self.assertEqual(filled.text, "2 * (" * 10 + "2 * -(-3)" + ")" * 10)
        made = program("2 * (x + " * 11 + "-?1" + ")" * 11)
        filled = made.filled([-3])
        self.assertEqual(filled.text, "2 * (x + " * 11 + "-(-3)" + ")" * 11)
        self.assertEqual(str(meaning(filled)), "6144 + 4094*x")
        self.assertEqual(filled.renamed({}).text, filled.text)
        self.assert_fails(TooLarge("nesting", 12), filled.in_world, WORLD)

    def test_filled_with_numbers_of_any_size(self):
        huge = Ratio(1)
        for _ in range(160):
            huge = huge * 10 ** 30
        filled = program("?1 * x").filled([-huge])
        self.assertEqual(filled.text, "-1" + "0" * 4800 + " * x")
        self.assertEqual(str(meaning(filled)), "-1" + "0" * 4800 + "*x")
        self.assertEqual(filled.renamed({"f": "h"}).text, filled.text)
        near = program("?1 * x").filled([Ratio(10 ** 29) * 100])
        self.assertEqual(near.text, "1" + "0" * 31 + " * x")
        self.assert_fails(InvalidText(0), near.in_world, WORLD)

    def test_places_of_later_errors(self):
        made = program("  (x)   *  ((?1))")
        self.assertEqual(made.text, "x * ?1")
        self.assertEqual(made.filled([Ratio(-1, 2)]).text, "x * -1/2")


class TestInWorld(Case):
    def test_in_world(self):
        other = World(["y", "x"], {"f": Unseen(mirror="even"), "g": Unseen(2)})
        made = program("f( -x ) + g(x,y) + ?1")
        moved = made.in_world(other)
        self.assertEqual(moved.text, "f(-x) + g(x, y) + ?1")
        self.assertIs(moved.world, other)
        self.assertIs(made.world, WORLD)
        self.assertEqual(made.in_world(world=WORLD), made)
        self.assertNotEqual(moved, made)

    def test_errors(self):
        made = program("let a=1; (x)  + f(a)")
        self.assertEqual(made.text, "let a = 1; x + f(a)")
        self.assert_fails(UnknownName("x"), made.in_world, World(["y"], {"f": Unseen()}))
        self.assert_fails(UnknownName("f"), made.in_world, World(["x"], {}))
        self.assert_fails(NameTaken("a"), made.in_world, World(["x", "a"], {"f": Unseen()}))
        self.assert_fails(WrongKind(15), made.in_world, World(["x"], {"f": Unseen(2)}))
        self.assert_fails(WrongKind(13), made.in_world, World(["f"], {"x": Unseen()}))


class TestRenamed(Case):
    def test_renamed(self):
        rows = [
            ("f(x) + h(y)", {"f": "h"}, "h(x) + h(y)"), ("f(x) + h(y)", {"f": "h", "h": "f"}, "h(x) + f(y)"),
            ("f(x) + h(y)", {"f": "f"}, "f(x) + h(y)"), ("f(x) + h(y)", {}, "f(x) + h(y)"), ("f[2](x) * f(f(y))", {"f": "h"}, "h[2](x) * h(h(y))"),
            ("g(x, y) - k[1,2](y, x)", {"g": "k", "k": "g"}, "k(x, y) - g[1,2](y, x)"), ("g(x, y) - k(y, x)", {"g": "k"}, "k(x, y) - k(y, x)"),
            ("integral(x, y, f) + slope(f)(x)", {"f": "h"}, "integral(x, y, h) + slope(h)(x)"),
            ("let a = f; a(x) + (fn @p: p(x))(f)", {"f": "h"}, "let a = h; a(x) + (fn @p: p(x))(h)"),
            ("?1 * f(x)", {"f": "h"}, "?1 * h(x)"), ("x + y", {"f": "g", "g": "f"}, "x + y"), ("f(x)", {"h": "g"}, "f(x)"),
            ("f(x) + g(x, y)", {"f": "h", "h": "f", "g": "k", "k": "g"}, "h(x) + k(x, y)"),
        ]
        for text, names, want in rows:
            made = program(text)
            before = dict(names)
            renamed = made.renamed(names)
            self.assertIsInstance(renamed, Program)
            self.assertEqual(renamed.text, want)
            self.assertEqual(renamed, program(want))
            self.assertEqual(meaning(renamed), meaning(program(want)))
            self.assertEqual(made.text, text)
            self.assertEqual(meaning(made), meaning(program(text)))
            self.assertEqual(names, before)
        self.assertEqual(program("f(x)").renamed(names={"f": "h"}).text, "h(x)")

    def test_unknown_names(self):
        made = program("f(x)")
        self.assert_fails(UnknownName("z"), made.renamed, {"z": "f"})
        self.assert_fails(UnknownName("z"), made.renamed, {"f": "z"})
        self.assert_fails(UnknownName("x"), made.renamed, {"x": "y"})
        self.assert_fails(UnknownName("x"), made.renamed, {"f": "x"})
        self.assert_fails(UnknownName("a"), made.renamed, {"z": "b", "f": "c", "a": "d"})
        self.assert_fails(UnknownName("z"), made.renamed, {"z": "b", "f": "a"})
        self.assert_fails(UnknownName("a"), made.renamed, {"f": "z", "h": "a", "g": "k"})
        self.assert_fails(UnknownName(""), made.renamed, {"f": ""})
        self.assert_fails(UnknownName("fn"), made.renamed, {"f": "z", "fn": "f"})
        self.assert_fails(UnknownName("z"), program("let a = f; a(x)").renamed, {"f": "g", "h": "z"})

    def test_several_led_to_one(self):
        world = World(["x"], {"f": Unseen(), "h": Unseen(mirror="even"), "k": Unseen(degree=1), "g": Unseen(2)})
        rows = [
            ("f(x) + h(x) + k(x)", {"f": "k", "h": "k"}, "k(x) + k(x) + k(x)"), ("f(h(k(x)))", {"f": "h", "h": "k", "k": "f"}, "h(k(f(x)))"),
            ("f(h(x))", {"f": "h", "k": "f"}, "h(h(x))"), ("g(f(x), g(h(x), 1))", {"f": "h", "h": "h", "g": "g"}, "g(h(x), g(h(x), 1))"),
            ("f[1](x) - slope(h)(x)", {"h": "f"}, "f[1](x) - slope(f)(x)"), ("integral(0, x, f) * integral(x, 1, h)", {"f": "h", "h": "f"},
                                                                            "integral(0, x, h) * integral(x, 1, f)"),
        ]
        for text, names, want in rows:
            renamed = Program(world, text).renamed(names)
            self.assertEqual(renamed, Program(world, want))
            self.assertEqual(meaning(renamed), meaning(Program(world, want)))
            self.assertIs(renamed.world, world)

    def test_parameters_and_lets_stay(self):
        world = World(["x"], {"f": Unseen(), "h": Unseen()})
        text = "let a = f; let b = fn t: a(t) * h(t); (fn @q: fn s: q(s) * b(s))(f)(x)"
        want = "let a = h; let b = fn t: a(t) * f(t); (fn @q: fn s: q(s) * b(s))(h)(x)"
        self.assertEqual(Program(world, text).renamed({"f": "h", "h": "f"}).text, want)
        for name in ["a", "b", "t", "q", "s"]:
            self.assert_fails(UnknownName(name), Program(world, text).renamed, {name: "f"})
            self.assert_fails(UnknownName(name), Program(world, text).renamed, {"f": name})

    def test_places_in_the_new_text(self):
        world = World(["x"], {"f": Unseen(), "long": Unseen(), "g": Unseen(2), "pair": Unseen(2)})
        rows = [
            ("f(x)", {"f": "g"}, 0), ("x + f(x)", {"f": "g"}, 4), ("long(x) + f(x)", {"long": "f", "f": "pair"}, 7),
            ("f(x) + long(x)", {"f": "long", "long": "g"}, 10), ("g(x, x)", {"g": "f"}, 0), ("f(x) + g(x, x)", {"f": "long", "g": "f"}, 10),
            ("f(f(x))", {"f": "pair"}, 0), ("x * f[1](x)", {"f": "g"}, 4), ("x + integral(x, f(x), f)", {"f": "g"}, 16),
            ("1 + integral(long(x), x, f)", {"long": "f", "f": "g"}, 4), ("integral(x, 1, f)", {"f": "g"}, 0),
            ("let a = long; a(x) + g[1,1](x, 1)", {"long": "f", "g": "f"}, 18), ("x + (slope(f)(x) + 1)", {"f": "g"}, 11),
        ]
        for text, names, at in rows:
            made = Program(world, text)
            self.assert_fails(WrongKind(at), made.renamed, names)
            self.assertEqual(made.text, text)

    def test_renamed_texts_beyond_the_limits(self):
        world = World(["x"], {"f": Unseen(), "abcdef": Unseen()})
        made = Program(world, "f(x)" + "+f(x)" * 119)
        self.assertLess(len(made.text), 900)
        renamed = made.renamed({"f": "abcdef"})
        self.assertEqual(len(renamed.text), 120 * 9 + 119 * 3)
        self.assertEqual(str(meaning(renamed)), "120*abcdef(x)")
        self.assertEqual(renamed.renamed({"abcdef": "f"}), made)
        self.assert_fails(TooLarge("text", 600), renamed.in_world, world)


class TestBlanksOfRenamed(Case):
    def test_blank_places_are_checked_when_made(self):
        self.assert_fails(InvalidBlank(3), program, "?1 * ?2")
        self.assertEqual(program("?1 * f(x)").renamed({"f": "h"}).blanks(), [1])


if __name__ == "__main__":
    unittest.main()
