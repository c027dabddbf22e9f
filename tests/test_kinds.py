"""Kinds, names and blanks, the order of the checks and the places of their errors ([9])."""

import unittest

from helpers import Case
from unseenslopes.errors import InvalidBlank, NameTaken, UnknownName, WrongKind
from unseenslopes.programs import Program
from unseenslopes.unseen import Unseen, World

WORLD = World(["x", "y"], {"f": Unseen(), "g": Unseen(2), "h": Unseen(mirror="odd")})
EMPTY = World([], {})


def program(text):
    return Program(WORLD, text)


class TestKinds(Case):
    def test_places_of_faults(self):
        rows = [
            # sums and products: the sign
            ("x + f", 2), ("f + x", 2), ("f + f", 2), ("x - f", 2), ("x + y - f", 6), ("x + f - y", 2), ("f + x - y", 2),
            ("x * f", 2), ("f * x", 2), ("x * y * f", 6), ("x + y * f", 6), ("x * f + f", 2), ("f + x * f", 2), ("x + (y + f)", 7),
            ("(f) + x", 4), ("(x + f) * f", 3), ("f[1] * x", 5), ("slope(f) + x", 9), ("(fn t: t) - x", 10),
            ("x + (fn t: t)(f)", 13),
            # minus signs
            ("-f", 0), ("x + -f", 4), ("-(fn t: t)", 0), ("-slope(f)", 0), ("- f + x", 0), ("-f(f)", 2), ("x * -f", 4),
            # applications: the parenthesis
            ("x(y)", 1), ("1(x)", 1), ("f(f)", 1), ("f(x)(y)", 4), ("f  (f)", 3), ("(x)(y)", 3), ("(x + y)(y)", 7), ("f(g(x, y))(x)", 10),
            ("g(x, y)(x)", 7), ("integral(x, y, f)(x)", 17), ("slope(f)(f)", 8), ("slope(f)(x)(y)", 11), ("f[1](f)", 4), ("(-x)(y)", 4),
            ("(fn t: t)(f)", 9), ("(fn @p: p(x))(x)", 13), ("(fn @p: p(x))(fn t: fn s: t)", 13), ("(fn @p: p(x))(fn @q: q(x))", 13),
            ("(fn @p: p)(f)(x)(y)", 16), ("(fn t: fn @p: p(t))(x)(y)", 22), ("(fn t: fn s: t)(f)(g)", 15), ("let a = f; a(a)", 12),
            ("let a = 1; a(x)", 12), ("(fn @p: p(p))(f)", 9), ("(fn t: t(x))(y)", 8),
            # slopes: the word
            ("slope(x)", 0), ("slope(1)(x)", 0), ("slope(f(x))(x)", 0), ("x + slope(y)(x)", 4), ("slope(fn @p: p(x))(f)", 0),
            ("slope(slope(fn @p: p(x)))(f)", 6), ("slope(slope(f)(x))(x)", 0), ("slope(f(f))(x)", 7),
            # integrals: the word
            ("integral(f, x, f)", 0), ("integral(x, f, f)", 0), ("x + integral(f, f, f)", 4), ("integral(x, y, g)", 0),
            ("integral(f(f), f, f)", 10), ("integral(x, f(f), f)", 13), ("integral(f, f(f), f)", 0), ("integral(f, x, g)", 0),
            # values at two arguments: the name
            ("g(f, x)", 0), ("g(x, f)", 0), ("x + g(x, f)", 4), ("g[1,2](f, x)", 0), ("g(f(f), f)", 3), ("g(x, f(f))", 6),
            ("g(f, f(f))", 0), ("f(x, y)", 0), ("x * h(x, y)", 4), ("f[1,2](x, y)", 0), ("f(f(f), x)", 3), ("f(x, f(f))", 6),
            # names of functions of two arguments
            ("g", 0), ("x + g", 4), ("g(x)", 0), ("g[1](x)", 0), ("slope(g)(x)", 6), ("(g)(x)", 1), ("-g", 1), ("g(g, x)", 2),
            ("f(g)", 2), ("let a = g; x", 8), ("g[0]", 0),
            # the last expression
            ("f", 0), ("  f", 2), ("(f)", 1), ("f[2]", 0), ("fn t: t", 0), ("(fn t: t)", 1), ("slope(f)", 0), ("(slope(f))", 1),
            ("fn @p: p(x)", 0), ("let a = f; a", 11), ("let a = fn t: fn s: t; a(x)", 24), ("(fn t: fn s: t)(x)", 15),
            ("slope(fn t: fn s: t)(x)", 20), ("((fn t: fn s: fn r: t)(x))(y)", 26), ("(fn @p: p)(f)", 10),
            ("let a = f + f; let b = f; b", 10),
        ]
        for text, at in rows:
            self.assert_fails(WrongKind(at), program, text)

    def test_the_first_of_two_faults(self):
        rows = [
            ("x + f + (f(f))", 2), ("f(f) + f", 1), ("f + f(f)", 2), ("x + f(f)", 5), ("f(x(y)) + f(f)", 3), ("x(f(f))", 3),
            ("x(y) + f", 1), ("g(f, f) + f(f)", 0), ("let a = -f; f", 8), ("f * f + -f", 2), ("slope(-f)(f)", 6), ("f(f)(f(f))", 1),
        ]
        for text, at in rows:
            self.assert_fails(WrongKind(at), program, text)

    def test_right_kinds(self):
        rows = [
            "(fn @p: p(x))(f)", "(fn @p: p(x))(f[2])", "(fn @p: p(x))(slope(h))", "(fn @p: p)(f)(x)", "(fn @p: fn t: p(t))(f)(x)",
            "slope(fn t: fn @p: p(t))(x)(f)", "let a = fn t: fn s: g(t, s); slope(a(x))(y) + slope(a)(x)(y)", "slope(slope(f))(x)",
            "(fn @p: slope(p)(x))(fn t: t * t)", "let a = fn @p: fn @q: fn t: p(q(t)); a(f)(h)(x)", "let u = f; let v = x; u(v)",
            "(fn t: fn s: fn r: t)(x)(y)(1)", "f(0)", "let a = fn t: t; x",
        ]
        for text in rows:
            self.assertEqual(program(text).text, text)


class TestNames(Case):
    def test_unknown_names(self):
        rows = [
            ("z", "z"), ("x + z", "z"), ("z(x)", "z"), ("f(z)", "z"), ("z[1](x)", "z"), ("z(x, y)", "z"), ("z[1,2](x, y)", "z"),
            ("g(z, x)", "z"), ("g(x, z)", "z"), ("integral(z, x, f)", "z"), ("integral(x, z, f)", "z"), ("integral(x, y, z)", "z"),
            ("slope(z)(x)", "z"), ("fn t: z", "z"), ("-z", "z"), ("let a = z; x", "z"), ("let a = a; x", "a"), ("a", "a"),
            ("(fn t: t)(t)", "t"), ("(fn t: t)(x) + t", "t"), ("let a = fn t: t; t", "t"), ("(fn @p: p(x))(p)", "p"),
            ("let a = b; let b = 1; x", "b"), ("f(fns)", "fns"), ("(fn t: s)(x)", "s"),
            # what is no unseen function ahead of a bracket or two arguments, or at the end of an integral
            ("x[1](x)", "x"), ("x(x, y)", "x"), ("x[1,1](x, y)", "x"), ("integral(x, y, x)", "x"), ("let a = f; a[1](x)", "a"),
            ("let a = f; a(x, y)", "a"), ("let a = f; integral(x, y, a)", "a"), ("(fn @p: p[1](x))(f)", "p"),
            ("(fn @p: p(x, y))(f)", "p"), ("(fn @p: integral(x, y, p))(f)", "p"), ("(fn t: t(x, y))(f)", "t"),
        ]
        for text, name in rows:
            self.assert_fails(UnknownName(name), program, text)
        self.assert_fails(UnknownName("x"), Program, EMPTY, "x")
        self.assert_fails(UnknownName("f"), Program, EMPTY, "f(1)")

    def test_taken_names(self):
        rows = [
            ("fn x: 1", "x"), ("fn f: 1", "f"), ("fn g: 1", "g"), ("fn @x: 1", "x"), ("fn @f: 1", "f"), ("fn t: fn t: t", "t"),
            ("fn t: fn @t: 1", "t"), ("fn @p: fn p: 1", "p"), ("let x = 1; y", "x"), ("let f = 1; y", "f"), ("let g = 1; y", "g"),
            ("let a = 1; let a = 2; a", "a"), ("let a = 1; fn a: 1", "a"), ("let a = 1; let b = fn @a: 1; b", "a"),
            ("(fn t: (fn s: fn t: 1)(x))(y)", "t"), ("f(fn y: z)", "y"), ("let a = 1; let b = 2; let a = 3; z", "a"),
        ]
        for text, name in rows:
            self.assert_fails(NameTaken(name), program, text)

    def test_names_that_are_free_again(self):
        rows = [
            "(fn t: t)(x) + (fn t: t)(y)", "let a = fn t: t; let t = 1; t", "let a = fn t: t; (fn t: a(t))(x)",
            "(fn t: t)((fn t: t)(x))", "(fn @p: p(x))(fn p: p)", "let b = fn a: a; let a = 1; b(a)",
            "let a = fn a: a; a(x)",
        ]
        for text in rows:
            self.assertEqual(program(text).text, text)

    def test_order_among_the_errors(self):
        rows = [
            # a parameter ahead of its body, a let behind its value
            ("fn x: z", NameTaken("x")), ("fn x: f + f", NameTaken("x")), ("let x = z; y", UnknownName("z")),
            ("let x = f + f; y", WrongKind(10)), ("let x = fn y: z; y", NameTaken("y")), ("let x = 1; z", NameTaken("x")),
            ("let a = z; let a = 1; f", UnknownName("z")), ("let a = f; let a = f; f", NameTaken("a")),
            # names and kinds in the order of the text, parts ahead of the whole
            ("z + f", UnknownName("z")), ("f + z", WrongKind(2)), ("x + z + f", UnknownName("z")), ("x + f + z", WrongKind(2)),
            ("x(z)", UnknownName("z")), ("f(f, z)", WrongKind(0)), ("f(z, f)", UnknownName("z")), ("f(f)(z)", WrongKind(1)),
            ("slope(z)", UnknownName("z")), ("slope(x) + z", WrongKind(0)), ("-z + f", UnknownName("z")), ("-f + z", WrongKind(0)),
            ("z * f * f", UnknownName("z")), ("f * z", WrongKind(2)), ("x * z * f", UnknownName("z")), ("g + z", WrongKind(0)),
            # names of values at two arguments and of integrals behind the arguments and ends
            ("z(w, y)", UnknownName("w")), ("z(x, w)", UnknownName("w")), ("z(f, w)", WrongKind(0)), ("z(x, f)", WrongKind(0)),
            ("z(x, y) + f", UnknownName("z")), ("z[1,1](f, x)", WrongKind(0)), ("z[1](f)", UnknownName("z")), ("z[1](w)", UnknownName("z")),
            ("integral(w, x, z)", UnknownName("w")), ("integral(x, w, z)", UnknownName("w")), ("integral(f, w, z)", WrongKind(0)),
            ("integral(x, f, z)", WrongKind(0)), ("integral(x, y, z) + f", UnknownName("z")), ("g[1](z)", WrongKind(0)),
            ("f(x, z)", UnknownName("z")), ("x(z, f)", UnknownName("z")), ("integral(x, z, g)", UnknownName("z")),
            # the last expression behind all
            ("fn t: z", UnknownName("z")), ("let a = 1; f", WrongKind(11)), ("f(z(x))", UnknownName("z")),
            # blanks
            ("f(?1) + z", InvalidBlank(2)), ("z + f(?1)", UnknownName("z")), ("f(f + ?1)", WrongKind(4)), ("f(?1 + f)", InvalidBlank(2)),
            ("?1 * (?2 + f)", WrongKind(9)), ("?1 * ?2 + f", InvalidBlank(3)), ("f * ?1 * ?2", WrongKind(2)), ("?1 * ?2 * z", InvalidBlank(3)),
            ("?1 * z * ?2", UnknownName("z")), ("x(?1)", InvalidBlank(2)), ("?1(z)", InvalidBlank(0)), ("?1(x)", InvalidBlank(0)),
            ("-f(?1)", InvalidBlank(3)), ("f(f)(?1)", WrongKind(1)), ("f(x)(?1)", InvalidBlank(5)), ("g(f, ?1)", WrongKind(0)),
            ("let a = ?1; z", InvalidBlank(8)), ("let x = ?1; z", InvalidBlank(8)), ("fn x: ?1", NameTaken("x")),
        ]
        for text, expected in rows:
            self.assert_fails(expected, program, text)


class TestBlankPlaces(Case):
    def test_wrong_places(self):
        rows = [
            ("f(?1)", 2), ("f((?1))", 3), ("?1(x)", 0), ("(x + ?1)(x)", 5), ("(fn t: ?1)(x)", 7), ("fn t: ?1", 6), ("slope(?1)(x)", 6),
            ("slope(fn t: ?1)(x)", 12), ("integral(?1, x, f)", 9), ("integral(x, ?1, f)", 12), ("g(?1, x)", 2), ("g(x, 2 * ?1)", 9),
            ("let a = ?1; a", 8), ("let a = 1; let b = 2 + ?3; a", 23), ("f(x + ?2) + ?1", 6), ("?1 + f(?2)", 7), ("f[1](?1)", 5),
            ("g[1,0](x, ?1)", 10), ("(fn t: t)(?1)", 10), ("f(x)(?1)", 5), ("(fn @p: p(?1))(f)", 10), ("-(f(?1))", 4), ("f(-?1)", 3),
        ]
        for text, at in rows:
            self.assert_fails(InvalidBlank(at), program, text)

    def test_blanks_in_both_factors(self):
        rows = [
            ("?1 * ?2", 3), ("?1 * ?1", 3), ("?1 * x * ?2", 7), ("x * ?1 * ?2", 7), ("(x + ?1) * (y - ?2)", 9), ("?1 * (x * ?2)", 3),
            ("-?1 * -?2", 4), ("x * (?1 * ?2)", 8), ("?1 * x * y * ?1 * ?2", 11), ("x + ?1 * ?2 + f", 7), ("(?1 * ?2) * ?3", 4),
        ]
        for text, at in rows:
            self.assert_fails(InvalidBlank(at), program, text)

    def test_right_places(self):
        rows = [
            "?1", "-?1", "?1 + ?2", "?1 * x", "x * ?1", "x * ?1 * y", "-(?1 + x)", "f(x) * (?1 + ?2 * y)", "2 * (x * (?1 - ?6))",
            "let a = 1; a * ?1", "f(x) + ?1 * g(x, y) - integral(x, y, f) * ?2", "?1 * x + ?1 * y", "(?1 + ?1) * (x + 1)",
        ]
        for text in rows:
            self.assertEqual(program(text).text, text)


if __name__ == "__main__":
    unittest.main()
