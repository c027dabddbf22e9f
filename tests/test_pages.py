"""Pages of notebooks ([20])."""

import random
import unittest

from bridge import random_program, random_world
from helpers import ANY_VALUES, Case
from unseenslopes.errors import InvalidPage
from unseenslopes.notebook import Notebook
from unseenslopes.pages import read_page, write_page
from unseenslopes.programs import Program, kept_program
from unseenslopes.ratios import Ratio
from unseenslopes.tokens import squeezed
from unseenslopes.unseen import Unseen, World

PAGE = """input x
input a
function e 1 even -1/2 degree 3
function f 1
function g 2 minus
program b f(x) + g(x, a)
program a let c = fn t: e(t); c(x) * 1/2
program f slope(fn @p: p(x))(f)
"""
GOOD = PAGE.replace("slope(fn @p: p(x))(f)", "slope(f)(x)")
LONG = "x" + " + x" * 299


class TestThereAndBack(Case):
    def check(self, book, page=None):
        before = book.history(), book.kept(), book.asked
        text = write_page(book)
        if page is not None:
            self.assertEqual(text, page)
        again = read_page(text)
        self.assertIs(type(again), Notebook)
        self.assertTrue(again == book)
        self.assertEqual(write_page(again), text)
        self.assertEqual((again.history(), again.kept(), again.asked, again.is_supposing), ((0, 0), [], 0, False))
        self.assertEqual((again.world, again.world.inputs(), again.world.functions()), (book.world, book.world.inputs(), book.world.functions()))
        self.assertEqual([(name, again.program_of(name)) for name in again.names()], [(name, book.program_of(name)) for name in book.names()])
        self.assertEqual((book.history(), book.kept(), book.asked), before)
        return again

    def test_pages(self):
        self.check(Notebook(World([], {})), "")
        self.check(Notebook(World(["x"], {})), "input x\n")
        self.check(Notebook(World([], {"f": Unseen()})), "function f 1\n")
        book = Notebook(World([], {}))
        book["a"] = "1 + 2/6"
        self.check(book, "program a 1 + 1/3\n")
        book = Notebook(World(["x", "a"], {"g": Unseen(2, swap="minus"), "f": Unseen(), "e": Unseen(mirror="even", centre=Ratio(-1, 2), degree=3)}))
        book["b"] = "f(x)+g( x,a )"
        book["a"] = "let c=fn t:e(t); c(x)*2/4"
        book["f"] = "slope((f))(x)"
        self.check(book, GOOD)
        self.assertEqual(write_page(book=read_page(text=GOOD)), GOOD)

    def test_every_fact(self):
        facts = [Unseen(), Unseen(mirror="odd"), Unseen(mirror="even", centre=-3), Unseen(mirror="odd", centre=Ratio(7, 2), degree=0), Unseen(degree=0), Unseen(degree=1),
                 Unseen(degree=2), Unseen(degree=3), Unseen(2), Unseen(2, swap="same"), Unseen(2, swap="minus"), Unseen(mirror="even", centre=10 ** 29)]
        for at in range(0, 12, 4):
            self.check(Notebook(World(["x"], dict(zip("hgfe", facts[at:at + 4])))))

    def test_large_notebooks(self):
        book = Notebook(World(["x", "y", "xa", "ya"], {"f": Unseen(), "ff": Unseen(), "fa": Unseen(), "a": Unseen(2)}))
        for name in "lkjihgfedcba":
            book[name] = "x" + "+x" * 299 if name in "fl" else f"f({len(book)})"
        self.assertEqual(len(book["f"]), 1197)
        again = self.check(book)
        self.assertEqual(again["l"], LONG)
        self.assertEqual(again.names(), list("lkjihgfedcba"))
        again.put("l", "x")
        self.assertEqual(again.history(), (1, 0))
        again.undo()
        self.assertTrue(again == book)

    def test_long_texts(self):
        world = World(["x"], {"f": Unseen(), "g": Unseen(2)})
        texts = ["x" + "*x" * 299, "x" + "-x" * 299, "-x" + "+-x" * 199, "g(1,x)" + "+g(x,1)" * 84, "(fn t:t*t*t)(x)" + "+1" * 290,
                 "let a=fn t:fn s:t*s;let b=a(1);b(x)" + "+b(1)" * 112, "g[1,2](x,x)" + "*g[1,0](x,1)" * 48, "1/2" + "*1/2" * 149, "x" + "+?1" * 199,
                 "integral(x,1,f)" + "-integral(x,1,f)" * 36]
        for text in texts:
            book = Notebook(world)
            book["p"] = text
            self.assertGreater(len(book["p"]), 600, text)
            self.check(book)
            self.assertEqual(len(squeezed(book["p"])), len(text))

    def test_notebooks_after_steps(self):
        book = Notebook(World(["x"], {"f": Unseen()}))
        book["a"] = "f(x)"
        book["b"] = "f(-x)"
        book.verdict("a", "b")
        book.rename("a", "f")
        book.assume("f", Unseen(mirror="odd", centre=1))
        self.check(book, "input x\nfunction f 1 odd 1\nprogram f f(x)\nprogram b f(-x)\n")
        book.undo()
        self.check(book, "input x\nfunction f 1\nprogram f f(x)\nprogram b f(-x)\n")
        page = book.under(write_page, f=Unseen(mirror="even"))
        self.assertEqual(page, "input x\nfunction f 1 even 0\nprogram f f(x)\nprogram b f(-x)\n")
        twin = book.under(lambda held: held.twin(), f=Unseen(mirror="even"))
        self.check(twin, page)
        self.check(book, "input x\nfunction f 1\nprogram f f(x)\nprogram b f(-x)\n")

    def test_drawn_notebooks(self):
        source = random.Random(101)
        for _ in range(40):
            world = random_world(source)
            book = Notebook(world)
            for name in "abcd":
                made, program = random_program(world, source)
                book[name] = made.text
            self.check(book)


class TestInvalidPages(Case):
    def fails(self, line, text):
        self.assert_fails(InvalidPage(line), read_page, text)

    def test_what_is_no_string(self):
        for value in ANY_VALUES:
            if not isinstance(value, str):
                self.fails(0, value)
        self.fails(0, [GOOD])

    def test_good_page(self):
        self.assertEqual(write_page(read_page(GOOD)), GOOD)
        self.fails(7, PAGE)

    def changed(self, index, line):
        """The page in which another line stands at an index."""
        lines = GOOD.split("\n")
        lines[index] = line
        return "\n".join(lines)

    def test_bent_lines(self):
        for index, lines in [
            (0, ["", "input", "input ", "input fn", "input X", "input x ", " input x", "input  x", "inputs x", "Input x", "input x y", "input abcdefg", "input let", "x",
                 "input\tx", "input x\r", "input 1", "function", "program", "input input;"]),
            (1, ["input x", "input e e", "input slope", "program a b", "program a", "input x", ""]),
            (2, ["function", "function e", "function e ", "function e 3", "function e 1 even", "function e 1 even 0 degree 4", "function e 1 even -2/4 degree 3",
                 "function e 1 even -1/2  degree 3", "function e 1 even -1/2 degree 3 ", "function e 1 even 1/-2", "function e 1 even -0", "function e 1 even 2/1",
                 "function  e 1", "function x 1", "function a 1", "function fn 1", "function E 1", "function e 1 same", "function e 2 even 0", "function e: 1"]),
            (3, ["function e 1", "function d 1", "input y", "function f 0", "function x 1"]),
            (4, ["function g 2 minus same", "function g 2 Minus", "function g minus", "input z"]),
            (5, ["program", "program b", "program b ", "program fn x", "program B x", "program b f(x)+g(x, a)", "program b f(x) + g(x,a)", "program b  x", "program b x ",
                 "program b (x)", "program b ((x) + 1)", "program b 2/4", "program b f(q)", "program b f", "program b ?1 * ?1", "program b f(x", "program b g[0,0](x, a)",
                 "program b f (x)", "program b 1/0", "program b x +  x", "program b let x = 1; x", "program b $", "program abcdefg x", "program b x + (x * 1)",
                 "program b ?7", "program b -(x)", "program b 1 1", "program b x x", "program b 01", "input q", "program b: x", "program b - x"]),
            (6, ["program b x", "program a let c = fn t: e(t);c(x) * 1/2", "function h 1", "input c", "program a let c=1; c", "program a fn t: t"]),
            (7, ["program a x", "program b x", "program f slope(f) (x)", "program f slope(f)(x)\r", ""]),
        ]:
            for line in lines:
                self.fails(index, self.changed(index, line))

    def test_functions_that_do_not_ascend(self):
        self.fails(3, self.changed(2, "function f 1"))
        self.fails(3, self.changed(2, "function g 1"))
        self.fails(3, self.changed(2, "function z 2"))
        self.fails(4, self.changed(3, "function h 1"))
        self.fails(1, "function f 1\nfunction e 1\n")
        self.fails(1, "function f 1\nfunction f 1\n")
        self.assertEqual(read_page("function f 1\nfunction fa 2\n").world.functions(), ["f", "fa"])

    def test_lines_left_out_doubled_and_exchanged(self):
        lines = GOOD.splitlines(keepends=True)
        for index in range(len(lines)):
            doubled = lines[:index + 1] + lines[index:]
            self.fails(index + 1, "".join(doubled))
        for index, line in [(0, 4), (1, 4), (2, 5), (3, 4), (4, 4)]:
            self.fails(line, "".join(lines[:index] + lines[index + 1:]))
        for index in (5, 6, 7):
            self.assertEqual(len(read_page("".join(lines[:index] + lines[index + 1:]))), 2)
        for index, line in [(1, 2), (2, 3), (3, 4), (4, 4)]:
            swapped = lines[:index] + [lines[index + 1], lines[index]] + lines[index + 2:]
            self.fails(line, "".join(swapped))
        swapped = [lines[1], lines[0], *lines[2:]]
        self.assertEqual(read_page("".join(swapped)).world.inputs(), ["a", "x"])
        self.assertFalse(read_page("".join(swapped)) == read_page(GOOD))
        swapped = [*lines[:5], lines[6], lines[5], lines[7]]
        self.assertEqual(read_page("".join(swapped)).names(), ["a", "b", "f"])

    def test_cut_pages(self):
        """A page that is cut is no page, unless it is cut behind a line."""
        for end in range(len(GOOD)):
            text = GOOD[:end]
            if text == "" or text.endswith("\n"):
                self.assertEqual(write_page(read_page(text)), text)
            else:
                self.fails(text.count("\n"), text)
        self.fails(8, GOOD + " ")
        self.fails(8, GOOD + "x")
        self.fails(8, GOOD + "\n")
        self.fails(8, GOOD + "\nx")
        self.fails(0, "\n")
        self.fails(0, "x")
        self.fails(0, "input x")
        self.fails(1, "input x\ninput y")
        self.fails(0, "input\ninput y")

    def test_first_line(self):
        self.fails(0, "input x \ninput y \nx")
        self.fails(1, "input x\ninput y \nfunction")
        self.fails(3, "input x\nfunction f 1\nprogram a f(x)\nfunction g 1\nx")

    def test_too_many(self):
        names = "abcdefghijklm"
        inputs = [f"input {name}\n" for name in names]
        functions = [f"function {name} 1\n" for name in names]
        programs = [f"program {name} 1\n" for name in names]
        self.assertEqual(len(read_page("".join(inputs[:4])).world), 4)
        self.fails(4, "".join(inputs[:5]))
        self.fails(4, "".join(inputs[:6]))
        self.assertEqual(len(read_page("".join(functions[:4])).world), 4)
        self.fails(4, "".join(functions[:5]))
        self.fails(8, "".join(inputs[:4] + functions[4:9]))
        self.assertEqual(len(read_page("".join(programs[:12]))), 12)
        self.fails(12, "".join(programs))
        self.fails(20, "".join(inputs[:4] + functions[4:8] + programs))

    def test_long_texts(self):
        """A text that a program keeps may be longer than 600 characters; one that no program keeps may not."""
        self.assertEqual(read_page(f"input x\nprogram a {LONG}\n")["a"], LONG)
        self.fails(1, f"input x\nprogram a {LONG} + x\n")
        self.fails(1, "input x\nprogram a " + "x" + "+x" * 299 + "\n")
        self.fails(1, f"input x\nprogram a {LONG} \n")
        self.fails(1, f"input x\nprogram a {LONG[:-1]}(x)\n")
        self.fails(1, "input x\nprogram a " + "x + (" * 12 + "x + x" + ")" * 12 + "\n")
        self.assertEqual(len(read_page("input x\nprogram a " + "x - (" * 11 + "x + x" + ")" * 11 + "\n")["a"]), 71)
        lets = "".join(f"let {name} = 1; " for name in "abcdefgh")
        self.assertEqual(read_page(f"program a {lets}a\n")["a"], f"{lets}a")
        self.fails(0, f"program a {lets}let i = 1; a\n")

    def test_programs_that_the_world_refuses(self):
        self.fails(2, "input x\nfunction f 2\nprogram a f(x)\n")
        self.fails(1, "input x\nprogram a y\n")
        self.fails(2, "input t\nfunction f 1\nprogram a (fn t: t)(1)\n")
        self.fails(0, "program a x\n")


class TestSqueezed(Case):
    def test_texts(self):
        rows = [("x + x", "x+x"), ("let a = fn t: t; a(x)", "let a=fn t:t;a(x)"), ("(fn @p: p(x))(f)", "(fn@p:p(x))(f)"), ("f [ 2 ] (x)", "f[2](x)"), ("", ""),
                ("  x  ", "x"), ("integral(x, 1/2, f)", "integral(x,1/2,f)"), ("?1 * x", "?1*x"), ("x - -x", "x--x"), ("g[1,2](x, y)", "g[1,2](x,y)")]
        for text, short in rows:
            self.assertEqual(squeezed(text), short)

    def test_kept_texts(self):
        source = random.Random(102)
        for _ in range(60):
            world = random_world(source)
            _, program = random_program(world, source)
            self.assertEqual(Program(world, squeezed(program.text)), program)
            self.assertEqual(kept_program(world, program.text), program)


if __name__ == "__main__":
    unittest.main()
