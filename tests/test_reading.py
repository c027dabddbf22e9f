"""Tokens, the grammar and the limits of programs ([8])."""

import random
import unittest

from earley import cut, wrong_place
from helpers import ANY_VALUES, Case
from unseenslopes import errors
from unseenslopes.errors import InvalidText, NameTaken, TooLarge, UnknownName, WrongKind
from unseenslopes.programs import Program
from unseenslopes.ratios import Ratio
from unseenslopes.unseen import Unseen, World

WORLD = World(["x", "y"], {"f": Unseen(), "g": Unseen(2), "h": Unseen(mirror="odd")})


def program(text):
    return Program(WORLD, text)


class TestTokens(Case):
    def test_values_that_are_no_strings(self):
        for value in [value for value in ANY_VALUES if not isinstance(value, str)]:
            self.assert_fails(InvalidText(0), Program, WORLD, value)
        self.assert_fails(InvalidText(0), Program, WORLD, Ratio(1))
        self.assert_fails(InvalidText(0), Program, world=WORLD, text=b"x")

    def test_place_of_a_wrong_token(self):
        rows = [
            ("X", 0), ("x + X", 4), ("x\n", 1), ("\nx", 0), ("x + #", 4), ("?", 0), ("?0", 0), ("?7", 0), ("x * ? 1", 4),
            ("??1", 0), ("x.y", 1), ("x / y", 2), ("x/2", 1), ("1/x", 1), ("1/ 2", 1), ("1 /2", 2), ("1/", 1), ("1/2/3", 3),
            ("1//2", 1), ("x + 01", 4), ("x + 00", 4), ("01/2", 0), ("1/02", 0), ("x + 1/0", 4), ("1/00", 0), ("0/0", 0),
            ("1" * 31, 0), ("x + " + "1" * 31, 4), ("1/" + "1" * 31, 0), ("1" * 31 + "/2", 0), ("abcdefg", 0),
            ("x + abcdefg(x)", 4), ("integrals", 0), ("integra", 0), ("aintegral", 0), ("xF", 1), ("x_y", 1), ("f[\t1]", 2),
            ("{x}", 0), ("x ^ 2", 2), ("x<y", 1), ("\"x\"", 0), ("x\\", 1), ("x~", 1), ("\u00e9", 0), ("\u0663", 0),
            ("1_0", 1), ("x'", 1), ("$", 0), ("x!", 1), ("x & y", 2), ("let lettera = 1; x", 4), ("+1.5", 2),
        ]
        for text, at in rows:
            self.assert_fails(InvalidText(at), program, text)

    def test_wrong_tokens_come_ahead_of_other_faults(self):
        rows = [
            ("x x x #", 6), ("z + f + 01", 8), ("let let let X", 12), (")(" * 100 + "?9", 200), ("fn x: x + y Y", 12),
            ("(" * 50 + "1/0", 50), ("let a = 1;" * 20 + "abcdefgh", 200), ("# x x", 0), ("x # 01", 2), ("01 #", 0),
        ]
        for text, at in rows:
            self.assert_fails(InvalidText(at), program, text)

    def test_right_tokens(self):
        rows = [
            ("0", "0"), ("0/3", "0"), ("4/6", "2/3"), ("6/3", "2"), ("9" * 30, "9" * 30), ("1/" + "9" * 30, "1/" + "9" * 30),
            ("  x  ", "x"), ("x+y", "x + y"), ("f(x)", "f(x)"), ("f  (  x  )", "f(x)"), ("f[1](x)", "f[1](x)"),
            ("f [ 1 ] ( x )", "f[1](x)"), ("g[ 1 , 2 ]( x , y )", "g[1,2](x, y)"), ("?1*x", "?1 * x"), ("?6", "?6"),
            ("let abcdef=1;abcdef", "let abcdef = 1; abcdef"), ("integral(x,y,f)", "integral(x, y, f)"),
            ("slope(fn t:t)(x)", "slope(fn t: t)(x)"), ("(fn@p:p(x))(f)", "(fn @p: p(x))(f)"), ("let fns=1;fns", "let fns = 1; fns"),
        ]
        for text, kept in rows:
            self.assertEqual(program(text).text, kept)

    def test_tokens_that_need_no_spaces(self):
        self.assert_fails(InvalidText(1), program, "1x")
        self.assert_fails(InvalidText(1), program, "x1")
        self.assert_fails(InvalidText(2), program, "?12")
        self.assert_fails(InvalidText(2), program, "?1?2")
        self.assert_fails(UnknownName("fnx"), program, "fnx")
        self.assert_fails(UnknownName("xx"), program, "f(xx)")


class TestGrammar(Case):
    def test_the_first_token_that_does_not_fit(self):
        rows = [
            ("", 0), ("   ", 3), ("x +", 3), ("x + ", 4), ("+ x", 0), ("x y", 2), ("x + * y", 4), ("--x", 1), ("x - -y -", 8),
            ("(x", 2), ("x)", 1), ("()", 1), ("f()", 2), ("f(x", 3), ("f(x y)", 4), ("f(,x)", 2), ("g(x,)", 4), ("g(x, y", 6),
            ("g(x, y, x)", 6), ("(g)(x, y)", 5), ("f(x)(y, x)", 6), ("(x, y)", 2), ("f[]", 2), ("f[x]", 2), ("f[5](x)", 2),
            ("f[10](x)", 2), ("f[1/2](x)", 2), ("f[2/1](x)", 2), ("f[-1](x)", 2), ("f[1", 3), ("f[1 2](x)", 4), ("f[1,](x)", 4),
            ("f[1,5](x)", 4), ("g[1,2]", 6), ("g[1,2] + x", 7), ("g[1,2](x)", 8), ("g[1,2](x, y", 11), ("g[1,2,3](x, y)", 5),
            ("g[1](x, y)", 6), ("(f)[1](x)", 3), ("f(x)[1]", 4), ("2[1]", 1), ("fn", 2), ("fn x", 4), ("fn x x", 5),
            ("fn 1: x", 3), ("fn @: x", 4), ("fn @@p: x", 4), ("fn @ p: x, y", 9), ("fn fn: x", 3), ("fn let: x", 3),
            ("fn integral: x", 3), ("fn slope: x", 3), ("fn x, y: x", 4), ("fn x:", 5), ("slope", 5), ("slope f", 6),
            ("slope()", 6), ("slope(f", 7), ("slope(f, g)", 7), ("slope[1](x)", 5), ("integral", 8), ("integral x", 9),
            ("integral(x, y)", 13), ("integral(x, y, 1)", 15), ("integral(x, y, (f))", 15), ("integral(x, y, f[1])", 16),
            ("integral(x, y, f", 16), ("integral(x, f)", 13), ("integral(x, y, slope)", 15), ("integral[1](x)", 8),
            ("let", 3), ("let x", 5), ("let 1 = x; x", 4), ("let fn = 1; x", 4), ("let integral = 1; x", 4), ("let @p = 1; x", 4),
            ("let a 1; a", 6), ("let a = ; a", 8), ("let a = 1", 9), ("let a = 1;", 10), ("let a = 1, a", 9), ("let a = 1: a", 9),
            ("let a = let b = 1; b; a", 8), ("x; y", 1), ("x let a = 1; a", 2), ("x + let", 4), ("let a = 1; x; y", 12),
            ("let a = 1; let", 14), ("let a = 1; b = 2; a", 13), ("x = y", 2), ("@x", 0), ("x : y", 2), ("-", 1), ("x * -", 5),
            ("f(-)", 3), ("?1 ?2", 3), ("1 2", 2), ("(x) y", 4), ("(x)(", 4), ("fn x: x) + 1", 7), ("]", 0), ("x ]", 2), ("= x", 0),
        ]
        for text, at in rows:
            self.assert_fails(InvalidText(at), program, text)
            self.assertEqual(wrong_place(text), at, text)

    def test_faults_of_the_grammar_come_ahead_of_those_of_meaning(self):
        self.assert_fails(InvalidText(8), program, "z + z(f x)")
        self.assert_fails(InvalidText(12), program, "f + f + x + )")
        self.assert_fails(InvalidText(21), program, "let x = f; let x = z;")

    def test_texts_beside_them_that_are_right(self):
        rows = [
            "x - -y", "-x * -y", "(-x)", "f((x))", "g(x, y)", "g[0,4](x, y)", "f[0](x)", "f[4](x)", "slope(f)(x)", "(f)(x)",
            "((f))((x))", "(f[1])(x)", "integral(x, y, f)", "let a = f; a(x)", "let a = 1; let b = a; b", "(fn t: t)(x)",
            "(fn @p: p(1))(f)", "slope(slope(f))(x)", "slope(fn t: fn s: t * s)(x)(y)", "-(x)", "-(-x)", "-f(x)", "?1 + ?2 * x",
            "(fn t: fn @p: p(t))(x)(f)", "let a = fn t: t; let b = fn @p: p(x); b(a)", "2 * 3 - 1/2", "(1/2)", "f(0)",
        ]
        for text in rows:
            self.assertIsNone(wrong_place(text))
            self.assertIsInstance(program(text).text, str)

    def test_one_token_left_out_put_in_or_exchanged(self):
        source = random.Random(11)
        bases = [
            "let a = fn t: f(t) * 2; let b = slope(a); b(x) + integral(0, a(y), h) - g[1,0](x, -y)",
            "let a = 1/2; let b = fn @p: fn t: p(p(t)) - a; b(fn s: s * (s + a))(x) * -3 + ?1 * (x - y)",
            "let c = g(x, f[2](y)); (fn t: fn @q: q(t))(c)(slope(f)) * (c + 1)",
        ]
        pieces = [
            "x", "f", "g", "a", "let", "fn", "slope", "integral", "1", "4", "5", "7/2", "?1", "(", ")", "[", "]", "+", "-",
            "*", ",", ":", ";", "=", "@",
        ]
        for base in bases:
            places = [place for kind, place in cut(base)]
            parts = [base[begin:end].strip() for begin, end in zip(places, places[1:])]
            for at in range(len(parts)):
                changes = [[], [source.choice(pieces)], [source.choice(pieces), parts[at]], [source.choice(pieces), parts[at]]]
                for change in changes:
                    self.check(" ".join([*parts[:at], *change, *parts[at + 1:]]))
            for at in range(len(parts)):
                self.check(" ".join(parts[:at]) + source.choice(["", " ", "   "]))

    def check(self, text):
        """A text is refused with the place that the other reader tells, or read."""
        at = wrong_place(text)
        if at is not None:
            self.assert_fails(InvalidText(at), program, text)
            return
        try:
            program(text)
        except errors.InvalidText:
            self.fail(text)
        except (errors.SlopeError, errors.Missing):
            pass


def nest(ahead, within, behind, times):
    """A text within others, so many times."""
    return ahead * times + within + behind * times


class TestLimits(Case):
    def test_length_of_the_text(self):
        text = "x" + " + x" * 149 + "   "
        self.assertEqual(len(text), 600)
        self.assertEqual(program(text).text, text.strip())
        self.assert_fails(TooLarge("text", 600), program, text + " ")
        self.assert_fails(TooLarge("text", 600), program, "#" * 601)
        self.assert_fails(InvalidText(0), program, "#" * 600)
        self.assert_fails(InvalidText(600), program, " " * 600)
        self.assert_fails(TooLarge("text", 600), program, " " * 601)
        self.assert_fails(TooLarge("text", 600), program, "x" * 6000)

    def test_lets(self):
        lets = "".join(f"let {name} = 1; " for name in "abcdeijk")
        self.assertEqual(program(lets + "k").text, lets + "k")
        self.assert_fails(TooLarge("lets", 8), program, lets + "let l = 1; k")
        self.assert_fails(TooLarge("lets", 8), program, lets + "let")
        self.assert_fails(TooLarge("lets", 8), program, lets + "let let")
        self.assert_fails(TooLarge("lets", 8), program, lets.replace("1", "z") + "let = )")
        self.assert_fails(InvalidText(6), program, "let a b; " + lets + lets)
        self.assert_fails(InvalidText(len(lets) + 2), program, lets + "k let l = 1; k")
        self.assert_fails(InvalidText(len(lets) + 11), program, lets + "let l = 1; #")

    def test_depth(self):
        rows = [
            ("(", "x", ")"), ("f(", "x", ")"), ("slope(", "f", ")"), ("fn t: ", "x", ""), ("fn @t: ", "x", ""),
            ("g(", "x", ", y)"), ("g(y, ", "x", ")"), ("g[1,1](y, ", "x", ")"), ("integral(", "x", ", y, f)"),
            ("integral(y, ", "x", ", f)"), ("-(", "x", ")"), ("1 + (", "x", ") * 2"), ("f[1](", "x", ")"),
        ]
        names = "abcdeijklmnop"
        for ahead, within, behind in rows:
            fine = nest(ahead, within, behind, 11)
            deep = nest(ahead, within, behind, 12)
            if "fn" in ahead:
                fine = "".join(ahead.replace("t", name) for name in names[:11]) + within
                deep = "".join(ahead.replace("t", name) for name in names[:12]) + within
            if ahead.startswith("slope") or "fn" in ahead:
                self.assert_fails(WrongKind(0), program, fine)
            else:
                self.assertIsInstance(program(fine), Program)
            self.assert_fails(TooLarge("nesting", 12), program, deep)
            self.assert_fails(TooLarge("nesting", 12), program, f"let w = {deep}; x")
            self.assert_fails(TooLarge("nesting", 12), program, f"let w = 1; {deep}")
            self.assert_fails(TooLarge("nesting", 12), program, deep[:deep.rindex(within)])
            self.assert_fails(TooLarge("nesting", 12), program, deep[:deep.rindex(within)] + "* )")

    def test_values_of_lets_are_one_deep(self):
        fine = nest("(", "x", ")", 11)
        self.assertEqual(program(f"let a = {fine}; let b = {fine}; {fine}").text, "let a = x; let b = x; x")
        self.assert_fails(TooLarge("nesting", 12), program, f"let a = {fine}; let b = ({fine}); z")

    def test_depth_is_left_again(self):
        fine = nest("(", "x", ")", 11)
        self.assertEqual(program(f"{fine} + {fine} * {fine}").text, "x + x * x")
        inner = nest("(", "x", ")", 10)
        self.assertEqual(program(f"g({inner}, {inner}) + f({inner})").text, "g(x, x) + f(x)")

    def test_the_first_of_two_faults(self):
        deep = nest("(", "x", ")", 12)
        lets = "".join(f"let {name} = 1; " for name in "abcdeijk")
        self.assert_fails(InvalidText(2), program, f"x y {deep}")
        self.assert_fails(TooLarge("nesting", 12), program, f"{deep} x y")
        self.assert_fails(TooLarge("nesting", 12), program, f"let a = {deep} {lets}")
        self.assert_fails(TooLarge("lets", 8), program, f"{lets}let l = {deep}; x")
        self.assert_fails(InvalidText(4), program, f"let let = {deep}; x")
        self.assert_fails(TooLarge("nesting", 12), program, f"z + {deep}")
        self.assert_fails(TooLarge("nesting", 12), program, f"let x = {deep}; x")
        self.assert_fails(InvalidText(len(deep) + 3), program, f"{deep} + #")
        self.assert_fails(TooLarge("text", 600), program, deep + " " * 600 + "#")
        self.assert_fails(NameTaken("x"), program, "let x = 1; z")


if __name__ == "__main__":
    unittest.main()
