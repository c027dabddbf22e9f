"""Notebooks: programs by name, steps, verdicts that are kept, facts that are supposed ([19])."""

import unittest

from helpers import ANY_VALUES, Case
from unseenslopes import errors
from unseenslopes.errors import (
    InvalidBlank, InvalidFact, InvalidName, InvalidText, NameTaken, NotNow, NothingLeft, TooLarge, UnknownName, WrongKind,
)
from unseenslopes.meaning import meaning
from unseenslopes.notebook import Notebook
from unseenslopes.programs import Program
from unseenslopes.ratios import Ratio
from unseenslopes.unseen import Unseen, World
from unseenslopes.verdicts import Alike, Apart

WORLD = World(["x", "y"], {"f": Unseen(), "h": Unseen(), "g": Unseen(2)})
EVEN = Unseen(mirror="even")
NO_NAMES = [value for value in ANY_VALUES if value != "x"] + ["fn", "let", "slope", "abcdefg", "X", ["a"], ("a",), Ratio(1), "a b"]
MANY = "abcdefghijkl"


def filled(*rows, world=WORLD):
    """A notebook with programs, each a tuple of a name and a text."""
    book = Notebook(world)
    for name, text in rows:
        book.put(name, text)
    return book


def state(book):
    """All that a notebook tells."""
    rows = [(name, book[name], book.program_of(name).text, book.program_of(name).world.text) for name in book.names()]
    return book.world.text, rows, book.asked, book.kept(), book.history(), book.is_supposing, len(book), repr(book)


class NotebookCase(Case):
    def assert_stays(self, error, book, call, *given, **more):
        """Asks for an error, and for the notebook as it was."""
        before = state(book)
        self.assert_fails(error, call, *given, **more)
        self.assertEqual(state(book), before)


class TestPrograms(NotebookCase):
    def test_an_empty_notebook(self):
        book = Notebook(WORLD)
        self.assertIs(book.world, WORLD)
        self.assertEqual((book.asked, book.names(), book.kept(), book.history(), len(book), repr(book)), (0, [], [], (0, 0), 0, "Notebook(0 programs)"))
        self.assertIs(book.is_supposing, False)
        self.assertEqual(Notebook.MOST, 12)
        self.assertEqual(Notebook(world=WORLD), book)

    def test_put(self):
        book = Notebook(WORLD)
        self.assertIsNone(book.put("b", "f(x)+1"))
        book["a"] = "  x*( y )"
        book.put(text="4/6", name="c")
        self.assertEqual(book.names(), ["b", "a", "c"])
        self.assertEqual([book[name] for name in book.names()], ["f(x) + 1", "x * y", "2/3"])
        self.assertEqual(book.program_of("b"), Program(WORLD, "f(x) + 1"))
        self.assertEqual(book.program_of(name="a").text, "x * y")
        book.put("b", "f( y )")
        self.assertEqual(book.names(), ["b", "a", "c"])
        self.assertEqual(book["b"], "f(y)")
        book["a"] = "1"
        self.assertEqual((book.names(), book["a"]), (["b", "a", "c"], "1"))
        self.assertEqual((len(book), repr(book), book.history()), (3, "Notebook(3 programs)", (5, 0)))
        self.assertEqual(repr(filled(("a", "x"))), "Notebook(1 programs)")
        told = book.names()
        told.append("z")
        self.assertEqual(book.names(), ["b", "a", "c"])

    def test_names_of_inputs_and_functions(self):
        book = filled(("x", "y"), ("f", "f(x)"), ("g", "x"), ("t", "(fn t: t)(x)"))
        self.assertEqual([book[name] for name in ["x", "f", "g", "t"]], ["y", "f(x)", "x", "(fn t: t)(x)"])
        self.assertEqual(str(meaning(book.program_of("f"))), "f(x)")
        self.assertTrue(book.verdict("x", "g").holds())

    def test_put_errors(self):
        book = filled(("a", "x"))
        for name in NO_NAMES:
            self.assert_stays(InvalidName(name), book, book.put, name, "x")
            self.assert_stays(InvalidName(name), book, book.put, name, "(")
            self.assert_stays(InvalidName(name), book, book.__setitem__, name, None)
        for text in [None, True, 0, [], ("x",)]:
            self.assert_stays(InvalidText(0), book, book.put, "a", text)
            self.assert_stays(InvalidText(0), book, book.put, "b", text)
        for text, error in [("x + f", WrongKind(2)), ("q", UnknownName("q")), ("f(x", InvalidText(3)), ("?1 * ?1", InvalidBlank(3)), ("1" + " " * 600, TooLarge("text", 600)),
                            ("let x = 1; x", NameTaken("x")), ("(" * 12 + "x" + ")" * 12, TooLarge("nesting", 12)), ("", InvalidText(0))]:
            self.assert_stays(error, book, book.put, "a", text)
            self.assert_stays(error, book, book.put, "b", text)
            self.assert_stays(error, book, book.__setitem__, "b", text)

    def test_twelve_programs(self):
        book = filled(*[(name, name if name in "xy" else "x") for name in MANY])
        self.assertEqual((len(book), repr(book)), (12, "Notebook(12 programs)"))
        self.assert_stays(TooLarge("programs", 12), book, book.put, "z", "x")
        self.assert_stays(TooLarge("programs", 12), book, book.put, "z", "(")
        self.assert_stays(TooLarge("programs", 12), book, book.__setitem__, "z", None)
        self.assert_stays(InvalidName("fn"), book, book.put, "fn", "x")
        self.assert_stays(InvalidText(1), book, book.put, "a", "(")
        book.put("a", "y")
        book.rename("a", "z")
        self.assertEqual(book.names(), ["z", *MANY[1:]])
        book.drop("z")
        book.put("w", "y")
        self.assertEqual(book.names(), [*MANY[1:], "w"])

    def test_drop(self):
        book = filled(("a", "x"), ("b", "y"), ("c", "1"))
        self.assertIsNone(book.drop("b"))
        self.assertEqual(book.names(), ["a", "c"])
        book.put("b", "2")
        self.assertEqual(book.names(), ["a", "c", "b"])
        book.drop(name="a")
        self.assertEqual((book.names(), book.history()), (["c", "b"], (6, 0)))
        for name in [*NO_NAMES, "x", "a", "zz"]:
            self.assert_stays(UnknownName(name), book, book.drop, name)

    def test_rename(self):
        book = filled(("a", "x"), ("b", "y"), ("c", "1"))
        self.assertIsNone(book.rename("b", "z"))
        self.assertEqual(book.names(), ["a", "z", "c"])
        self.assertEqual(book["z"], "y")
        book.rename(fresh="b", name="a")
        self.assertEqual(book.names(), ["b", "z", "c"])
        for fresh in NO_NAMES:
            self.assert_stays(InvalidName(fresh), book, book.rename, "b", fresh)
        for name in [*NO_NAMES, "a", "x"]:
            self.assert_stays(UnknownName(name), book, book.rename, name, "q")
            self.assert_stays(UnknownName(name), book, book.rename, name, "fn")
            self.assert_stays(UnknownName(name), book, book.rename, name, "b")
        for fresh in ["b", "z", "c"]:
            self.assert_stays(NameTaken(fresh), book, book.rename, "b", fresh)
        book.rename("c", "f")
        self.assertEqual(book.names(), ["b", "z", "f"])

    def test_assume(self):
        book = filled(("a", "f(x) + f(-x)"), ("b", "2 * f(x)"))
        self.assertFalse(book.verdict("a", "b"))
        self.assertIsNone(book.assume("f", EVEN))
        self.assertEqual(book.world, WORLD.with_fact("f", EVEN))
        self.assertEqual(book.program_of("a"), Program(book.world, "f(x) + f(-x)"))
        self.assertTrue(book.verdict("a", "b"))
        book.assume(fact=Unseen(degree=0), name="f")
        self.assertEqual(book.world.fact("f"), Unseen(degree=0))
        self.assertEqual(WORLD.fact("f"), Unseen())
        for name in [value for value in ANY_VALUES if value != "x"] + ["x", "a", "q", ["f"]]:
            self.assert_stays(UnknownName(name), book, book.assume, name, Unseen(2))
        self.assert_stays(InvalidFact("arity"), book, book.assume, "f", Unseen(2))
        self.assert_stays(InvalidFact("arity"), book, book.assume, "g", Unseen())
        book.put("c", "f[1](x)")
        self.assertEqual(str(meaning(book.program_of("c"))), "0")

    def test_unknown_programs(self):
        book = filled(("a", "x"))
        for name in [*NO_NAMES, "x", "f", "b"]:
            self.assert_stays(UnknownName(name), book, book.program_of, name)
            self.assert_stays(UnknownName(name), book, book.__getitem__, name)
        with self.assertRaises(errors.UnknownName):
            book["b"]

    def test_in(self):
        book = filled(("a", "x"), ("x", "1"))
        for value in ANY_VALUES + ["b", "f", ["a"], ("a",), {}, Ratio(1)]:
            self.assertIs(value in book, value == "x")
        self.assertIs("a" in book, True)
        with self.assertRaises(TypeError):
            iter(book)

    def test_long_texts(self):
        book = Notebook(WORLD)
        book["a"] = "x" + "+x" * 299
        self.assertEqual(len(book["a"]), 1197)
        self.assertEqual(book.program_of("a").text, book["a"])
        book.assume("f", EVEN)
        self.assertEqual(book.program_of("a").world, book.world)
        self.assertEqual(len(book["a"]), 1197)
        book["b"] = "300*x"
        self.assertTrue(book.verdict("a", "b"))
        self.assertEqual(book.under(lambda held: (len(held["a"]), bool(held.verdict("a", "b"))), f=Unseen(degree=1)), (1197, True))
        self.assertEqual(book.twin()["a"], book["a"])
        book.undo()
        book.undo()
        self.assertEqual((book.world, len(book["a"])), (WORLD, 1197))
        self.assert_stays(TooLarge("text", 600), book, book.put, "c", book["a"])
        book.redo()
        self.assertEqual(len(book["a"]), 1197)
        self.assertEqual(book.program_of("a"), book.twin().program_of("a"))

    def test_equality(self):
        book = filled(("a", "x"), ("b", "y"))
        other = filled(("a", "1"), ("b", "y"))
        self.assertFalse(book == other)
        other.put("a", "( x )")
        self.assertTrue(book == other)
        self.assertFalse(book != other)
        other.verdict("a", "b")
        self.assertTrue(book == other)
        other.assume("f", Unseen())
        self.assertTrue(book == other)
        other.assume("f", EVEN)
        self.assertFalse(book == other)
        self.assertFalse(book == filled(("b", "y"), ("a", "x")))
        self.assertFalse(book == filled(("a", "x")))
        self.assertFalse(book == filled(("a", "x"), ("c", "y")))
        self.assertFalse(book == filled(("a", "x"), ("b", "y"), world=World(["y", "x"], {name: WORLD.fact(name) for name in "fgh"})))
        for value in [*ANY_VALUES, WORLD, {"a": "x", "b": "y"}]:
            self.assertFalse(book == value)
            self.assertTrue(book != value)
        self.assertTrue(Notebook(WORLD) == Notebook(World(["x", "y"], {"g": Unseen(2), "h": Unseen(), "f": Unseen()})))


class TestSteps(NotebookCase):
    def test_undo_and_redo(self):
        book = Notebook(WORLD)
        states = [(book.world, [])]
        deeds = [
            lambda: book.put("a", "x"), lambda: book.put("b", "f(x)"), lambda: book.put("a", "y"), lambda: book.rename("a", "c"), lambda: book.assume("f", EVEN),
            lambda: book.__setitem__("d", "f(-x)"), lambda: book.drop("c"), lambda: book.put("b", "f(x)"), lambda: book.assume("f", EVEN), lambda: book.put("c", "1"),
        ]
        for deed in deeds:
            deed()
            states.append((book.world, [(name, book.program_of(name)) for name in book.names()]))
        many = len(deeds)
        self.assertEqual(book.history(), (many, 0))
        for at in list(range(many - 1, -1, -1)) + list(range(1, many + 1)) + [many - 1, many - 2, many - 1]:
            back = at < book.history()[0]
            self.assertIsNone(book.undo() if back else book.redo())
            self.assertEqual((book.world, [(name, book.program_of(name)) for name in book.names()]), states[at])
            self.assertEqual(book.history(), (at, many - at))
        self.assertEqual(states[8][1], states[7][1])

    def test_nothing_left(self):
        book = Notebook(WORLD)
        self.assert_stays(NothingLeft("undo"), book, book.undo)
        self.assert_stays(NothingLeft("redo"), book, book.redo)
        book.put("a", "x")
        self.assert_stays(NothingLeft("redo"), book, book.redo)
        book.undo()
        self.assert_stays(NothingLeft("undo"), book, book.undo)
        book.redo()
        self.assert_stays(NothingLeft("redo"), book, book.redo)
        self.assertEqual(book.names(), ["a"])

    def test_steps_that_change_nothing(self):
        book = filled(("a", "x"))
        book.put("a", " x ")
        book.assume("f", Unseen())
        self.assertEqual(book.history(), (3, 0))
        book.undo()
        self.assertEqual((book.history(), book["a"]), ((2, 1), "x"))
        book.undo()
        book.undo()
        self.assertEqual((book.history(), book.names()), ((0, 3), []))
        book.redo()
        book.redo()
        book.redo()
        self.assertEqual((book.history(), book["a"]), ((3, 0), "x"))

    def test_a_step_ends_what_can_be_redone(self):
        for deed in [lambda book: book.put("a", "x"), lambda book: book.put("z", "1"), lambda book: book.drop("a"), lambda book: book.rename("a", "q"),
                     lambda book: book.assume("f", EVEN), lambda book: book.assume("f", Unseen()), lambda book: book.__setitem__("a", "y")]:
            book = filled(("a", "x"), ("b", "y"), ("c", "1"))
            book.undo()
            book.undo()
            self.assertEqual(book.history(), (1, 2))
            deed(book)
            self.assertEqual(book.history(), (2, 0))
            self.assert_stays(NothingLeft("redo"), book, book.redo)

    def test_a_call_that_raises_ends_nothing(self):
        book = filled(("a", "x"), ("b", "y"))
        book.undo()
        for call, given in [(book.put, ("fn", "x")), (book.put, ("z", "(")), (book.drop, ("z",)), (book.rename, ("a", "a")), (book.assume, ("f", Unseen(2)))]:
            with self.assertRaises((errors.SlopeError, errors.Missing)):
                call(*given)
            self.assertEqual(book.history(), (1, 1))
        book.redo()
        self.assertEqual(book.names(), ["a", "b"])

    def test_order_behind_undo(self):
        book = filled(("a", "x"), ("b", "y"), ("c", "1"))
        book.drop("a")
        book.put("a", "2")
        book.undo()
        book.undo()
        self.assertEqual(book.names(), ["a", "b", "c"])
        book.redo()
        book.redo()
        self.assertEqual(book.names(), ["b", "c", "a"])
        book.rename("b", "q")
        book.undo()
        self.assertEqual(book.names(), ["b", "c", "a"])


class TestVerdicts(NotebookCase):
    def test_verdicts(self):
        book = filled(("a", "f(x) + 0"), ("b", "f(x)"), ("c", "f(y)"))
        one = book.verdict("a", "b")
        self.assertIs(type(one), Alike)
        self.assertEqual((one.one, one.other), (book.program_of("a"), book.program_of("b")))
        two = book.verdict(other="c", one="b")
        self.assertIs(type(two), Apart)
        self.assertTrue(one.holds() and two.holds())
        self.assertEqual((book.asked, book.kept()), (2, [("a", "b"), ("b", "c")]))
        self.assertIs(book.verdict("a", "b"), one)
        self.assertIs(book.verdict("b", "c"), two)
        self.assertEqual(book.asked, 2)
        self.assertIsNot(book.verdict("b", "a"), one)
        self.assertIs(type(book.verdict("c", "c")), Alike)
        self.assertEqual((book.asked, book.kept()), (4, [("a", "b"), ("b", "a"), ("b", "c"), ("c", "c")]))
        self.assertEqual(book.history(), (3, 0))
        told = book.kept()
        told.append(("q", "q"))
        self.assertEqual(len(book.kept()), 4)

    def test_errors(self):
        book = filled(("a", "f(x)"), ("b", "x + ?1"), ("c", "?2 * x - ?1"))
        for name in [*NO_NAMES, "x", "z"]:
            self.assert_stays(UnknownName(name), book, book.verdict, name, "a")
            self.assert_stays(UnknownName(name), book, book.verdict, "a", name)
            self.assert_stays(UnknownName(name), book, book.verdict, "b", name)
            self.assert_stays(UnknownName(name), book, book.verdict, name, "zz")
        self.assert_stays(InvalidBlank(4), book, book.verdict, "b", "c")
        self.assert_stays(InvalidBlank(0), book, book.verdict, "c", "b")
        self.assert_stays(InvalidBlank(4), book, book.verdict, "a", "b")
        self.assertEqual(book.asked, 0)

    def pairs(self, deed, gone, ahead=()):
        """Asks which verdicts are struck by a deed."""
        book = filled(("a", "x"), ("b", "y"), ("c", "f(x)"))
        for step in ahead:
            step(book)
        pairs = [(one, other) for one in "abc" for other in "abc"]
        held = {pair: book.verdict(*pair) for pair in pairs}
        self.assertEqual(book.asked, 9)
        deed(book)
        left = [pair for pair in pairs if not set(pair) & set(gone)]
        self.assertEqual(book.kept(), left)
        for pair in left:
            self.assertIs(book.verdict(*pair), held[pair])
        self.assertEqual(book.asked, 9)

    def test_what_strikes_verdicts(self):
        self.pairs(lambda book: book.put("a", "x"), "")
        self.pairs(lambda book: book.put("a", "(x)"), "")
        self.pairs(lambda book: book.put("a", "y"), "a")
        self.pairs(lambda book: book.put("b", "1 + 1"), "b")
        self.pairs(lambda book: book.put("d", "1 + 1"), "")
        self.pairs(lambda book: book.drop("c"), "c")
        self.pairs(lambda book: book.rename("a", "d"), "a")
        self.pairs(lambda book: book.assume("f", Unseen()), "")
        self.pairs(lambda book: book.assume("f", EVEN), "abc")
        self.pairs(lambda book: book.assume("h", EVEN), "abc")
        self.pairs(lambda book: book.undo(), "c")
        self.pairs(lambda book: (book.undo(), book.undo()), "bc")
        self.pairs(lambda book: (book.undo(), book.redo()), "c")
        self.pairs(lambda book: (book.drop("b"), book.undo()), "b")
        self.pairs(lambda book: (book.rename("b", "q"), book.undo()), "b")
        self.pairs(lambda book: (book.rename("b", "q"), book.rename("q", "b")), "b")
        self.pairs(lambda book: (book.put("b", "1"), book.put("b", "y")), "b")
        self.pairs(lambda book: (book.put("a", "x"), book.undo(), book.redo()), "")
        self.pairs(lambda book: (book.assume("f", EVEN), book.undo()), "abc")
        self.pairs(lambda book: (book.assume("f", Unseen()), book.undo(), book.redo()), "")
        self.pairs(lambda book: book.undo(), "", [lambda book: book.assume("f", Unseen())])
        self.pairs(lambda book: book.redo(), "", [lambda book: book.put("d", "1"), lambda book: book.undo()])
        self.pairs(lambda book: book.undo(), "", [lambda book: book.put("d", "1")])
        self.pairs(lambda book: book.undo(), "abc", [lambda book: book.assume("f", EVEN)])
        self.pairs(lambda book: (book.drop("a"), book.put("a", "x")), "a")

    def test_verdicts_on_what_was_renamed(self):
        book = filled(("a", "x"), ("b", "x"))
        book.verdict("a", "b")
        book.rename("a", "c")
        self.assertEqual(book.kept(), [])
        self.assertTrue(book.verdict("c", "b"))
        self.assertEqual((book.asked, book.kept()), (2, [("c", "b")]))

    def test_verdicts_under_new_facts(self):
        book = filled(("a", "f(x)"), ("b", "f(-x)"))
        self.assertFalse(book.verdict("a", "b"))
        book.assume("f", EVEN)
        verdict = book.verdict("a", "b")
        self.assertTrue(verdict and verdict.holds())
        self.assertEqual(verdict.one.world, book.world)
        self.assertEqual(book.asked, 2)


class TestUnder(NotebookCase):
    def test_facts_and_answers(self):
        book = filled(("a", "f(x) + h(x)"), ("b", "f(-x) - h(-x)"))
        self.assertFalse(book.verdict("a", "b"))
        before = state(book)
        seen = []

        def ask(held):
            seen.append(held is book)
            self.assertIs(held.is_supposing, True)
            self.assertEqual(held.world, World(["x", "y"], {"f": EVEN, "h": Unseen(mirror="odd"), "g": Unseen(2)}))
            self.assertEqual(held.program_of("a").world, held.world)
            self.assertEqual(held.kept(), [])
            return [bool(held.verdict("a", "b")), held.kept(), held.asked, held.history(), held["a"], held.names()]
        answer = book.under(ask, h=Unseen(mirror="odd"), f=EVEN)
        self.assertEqual(answer, [True, [("a", "b")], 2, (2, 0), "f(x) + h(x)", ["a", "b"]])
        self.assertEqual(seen, [True])
        self.assertEqual(state(book), (*before[:2], 2, *before[3:]))
        self.assertFalse(book.verdict("a", "b"))
        self.assertEqual(book.asked, 2)
        self.assertIsNone(book.under(lambda held: None))
        self.assertIsNone(book.under(ask=lambda held: None, f=EVEN))
        self.assertEqual(book.under(lambda held: held.world), WORLD)

    def test_no_facts(self):
        book = filled(("a", "x"), ("b", "y"))
        book.verdict("a", "b")
        self.assertEqual(book.under(lambda held: (held.kept(), held.is_supposing, held.world.text)), ([], True, WORLD.text))
        self.assertEqual(book.kept(), [("a", "b")])

    def test_verdicts_are_kept_apart(self):
        book = filled(("a", "f(x)"), ("b", "f(-x)"))
        plain = book.verdict("a", "b")

        def ask(held):
            one = held.verdict("a", "b")
            self.assertIs(held.verdict("a", "b"), one)
            held.verdict("b", "b")
            return one
        supposed = book.under(ask, f=EVEN)
        self.assertTrue(supposed and supposed.holds())
        self.assertIs(book.verdict("a", "b"), plain)
        self.assertEqual((book.kept(), book.asked), ([("a", "b")], 3))
        self.assertTrue(book.under(ask, f=EVEN))
        self.assertEqual(book.asked, 5)

    def test_errors_ahead_of_asking(self):
        book = filled(("a", "x"))

        def ask(held):
            self.fail("asked")
        self.assert_stays(UnknownName("z"), book, book.under, ask, z=Unseen())
        self.assert_stays(UnknownName("x"), book, book.under, ask, x=Unseen())
        self.assert_stays(UnknownName("a"), book, book.under, ask, g=Unseen(), a=Unseen())
        self.assert_stays(InvalidFact("arity"), book, book.under, ask, z=Unseen(), g=Unseen())
        self.assert_stays(InvalidFact("arity"), book, book.under, ask, g=Unseen(), f=EVEN)
        self.assert_stays(UnknownName("b"), book, book.under, ask, h=Unseen(2), b=Unseen())
        self.assert_stays(UnknownName("Name"), book, book.under, ask, f=Unseen(2), Name=Unseen())
        self.assert_stays(InvalidFact("arity"), book, book.under, ask, f=Unseen(2), h=Unseen(2))
        self.assertIs(book.is_supposing, False)

    def test_what_ask_raises(self):
        book = filled(("a", "f(x)"), ("b", "f(-x)"), ("c", "?1"))
        book.verdict("a", "b")
        before = state(book)
        for error in [KeyError("k"), ValueError("v"), InvalidFact("arity"), UnknownName("f"), ZeroDivisionError(), StopIteration(), NotNow("under")]:
            def ask(held):
                self.assertEqual(held.kept(), [])
                raise error
            with self.assertRaises(type(error)) as caught:
                book.under(ask, f=EVEN)
            self.assertIs(caught.exception, error)
            self.assertEqual(state(book), before)
        self.assert_stays(InvalidBlank(0), book, book.under, lambda held: held.verdict("a", "c"), f=EVEN)
        self.assert_stays(UnknownName("q"), book, book.under, lambda held: held["q"], f=EVEN)

        def spoil(held):
            held.verdict("a", "b")
            raise KeyError
        with self.assertRaises(KeyError):
            book.under(spoil, f=EVEN)
        self.assertEqual(state(book), (*before[:2], 2, *before[3:]))

    def test_under_within_under(self):
        book = filled(("a", "f(x)"), ("b", "f(-x)"), ("c", "h(x)"), ("d", "-h(-x)"))
        book.verdict("a", "b")

        def inner(held):
            self.assertEqual(held.kept(), [])
            self.assertIs(held.is_supposing, True)
            return [bool(held.verdict("a", "b")), bool(held.verdict("c", "d")), held.kept(), held.world.text]

        def outer(held):
            one = held.verdict("a", "b")
            found = held.under(inner, h=Unseen(mirror="odd"))
            self.assertIs(held.is_supposing, True)
            self.assertIs(held.verdict("a", "b"), one)
            self.assertEqual(held.world, WORLD.with_fact("f", EVEN))
            self.assertEqual(held.kept(), [("a", "b")])
            self.assertFalse(held.verdict("c", "d"))
            self.assert_fails(UnknownName("z"), held.under, inner, z=Unseen())
            self.assert_fails(InvalidFact("arity"), held.under, inner, f=Unseen(2))
            self.assertEqual(held.world, WORLD.with_fact("f", EVEN))
            again = held.under(lambda book: bool(book.verdict("a", "b")), f=Unseen())
            return found, again
        found, again = book.under(outer, f=EVEN)
        self.assertEqual(found, [True, True, [("a", "b"), ("c", "d")], "x, y; f: 1 even 0, g: 2, h: 1 odd 0"])
        self.assertIs(again, False)
        self.assertIs(book.is_supposing, False)
        self.assertEqual((book.world, book.kept(), book.asked), (WORLD, [("a", "b")], 6))

    def test_what_the_inner_raises(self):
        book = filled(("a", "f(x)"))

        def inner(held):
            raise KeyError

        def outer(held):
            held.verdict("a", "a")
            with self.assertRaises(KeyError):
                held.under(inner, f=Unseen(degree=1))
            return held.world, held.kept(), held.is_supposing
        self.assertEqual(book.under(outer, f=EVEN), (WORLD.with_fact("f", EVEN), [("a", "a")], True))
        self.assertEqual((book.world, book.kept(), book.is_supposing), (WORLD, [], False))

    def test_not_now(self):
        book = filled(("a", "x"), ("b", "y"))
        book.undo()

        def ask(held):
            deeds = [
                ("put", lambda: held.put("z", "1")), ("put", lambda: held.put(None, None)), ("put", lambda: held.put("a", "(")), ("drop", lambda: held.drop("a")),
                ("put", lambda: held.__setitem__("z", "1")), ("put", lambda: held.__setitem__("fn", "(")), ("drop", lambda: held.drop("zz")),
                ("rename", lambda: held.rename("a", "c")), ("rename", lambda: held.rename("zz", "fn")), ("rename", lambda: held.rename("a", "a")),
                ("assume", lambda: held.assume("f", EVEN)), ("assume", lambda: held.assume("zz", EVEN)), ("assume", lambda: held.assume("f", Unseen(2))),
                ("undo", held.undo), ("redo", held.redo),
            ]
            for deed, call in deeds:
                self.assert_stays(NotNow(deed), held, call)
                self.assertRaises(NotNow, lambda: held.under(lambda book: call()))
            return len(deeds)
        self.assertEqual(book.under(ask, f=EVEN), 15)
        book.undo()
        self.assert_stays(NotNow("undo"), book, book.under, lambda held: held.undo())
        self.assert_stays(NotNow("redo"), book, book.under, lambda held: held.redo(), h=EVEN)
        empty = Notebook(WORLD)
        self.assert_stays(NotNow("undo"), empty, empty.under, lambda held: held.undo())
        self.assert_stays(NotNow("redo"), empty, empty.under, lambda held: held.redo())
        book.redo()
        self.assertEqual(book.names(), ["a"])

    def test_names_of_facts(self):
        world = World([], {"name": Unseen(), "facts": Unseen(), "world": Unseen(), "held": Unseen()})
        book = Notebook(world)
        facts = {name: EVEN for name in world.functions()}
        self.assertEqual(book.under(lambda held: held.world.text, **facts), "; facts: 1 even 0, held: 1 even 0, name: 1 even 0, world: 1 even 0")
        self.assertEqual(facts, {name: EVEN for name in world.functions()})
        self.assertEqual(book.world, world)


class TestTwin(NotebookCase):
    def test_both_ways(self):
        book = filled(("a", "f(x)"), ("b", "f(-x)"))
        kept = book.verdict("a", "b")
        book.put("c", "1")
        book.undo()
        twin = book.twin()
        self.assertIs(type(twin), Notebook)
        self.assertIsNot(twin, book)
        self.assertEqual(state(twin), state(book))
        self.assertTrue(twin == book)
        self.assertIs(twin.verdict("a", "b"), kept)
        before = state(book)
        twin.verdict("b", "b")
        twin.redo()
        twin.put("d", "2")
        twin.drop("a")
        twin.assume("f", EVEN)
        self.assertEqual(state(book), before)
        self.assertEqual(twin.history(), (6, 0))
        before = state(twin)
        book.undo()
        book.undo()
        book.put("z", "x")
        book.assume("h", EVEN)
        book.verdict("z", "z")
        self.assertEqual(state(twin), before)
        for _ in range(6):
            twin.undo()
        self.assertEqual((twin.names(), twin.history(), twin.world), ([], (0, 6), WORLD))
        twin.redo()
        self.assertEqual((twin.names(), book.names()), (["a"], ["z"]))

    def test_counts(self):
        book = filled(("a", "x"), ("b", "y"))
        book.verdict("a", "b")
        twin = book.twin()
        twin.verdict("b", "a")
        self.assertEqual((book.asked, twin.asked), (1, 2))
        book.verdict("a", "a")
        book.verdict("b", "b")
        self.assertEqual((book.asked, twin.asked), (3, 2))
        self.assertEqual((book.kept(), twin.kept()), ([("a", "a"), ("a", "b"), ("b", "b")], [("a", "b"), ("b", "a")]))

    def test_while_under_runs(self):
        book = filled(("a", "f(x)"), ("b", "f(-x)"))
        book.put("a", "f(x) + 1 - 1")
        book.undo()
        book.verdict("a", "b")

        def ask(held):
            held.verdict("a", "b")
            held.verdict("b", "b")
            twin = held.twin()
            self.assertIs(twin.is_supposing, False)
            self.assertTrue(twin == held)
            self.assertEqual((twin.kept(), twin.asked, twin.history()), (held.kept(), held.asked, held.history()))
            inner = twin.twin()
            inner.put("z", "1")
            self.assertEqual(inner.history(), (3, 0))
            return twin
        supposed = WORLD.with_fact("f", EVEN)
        twin = book.under(ask, f=EVEN)
        self.assertEqual((twin.world, book.world), (supposed, WORLD))
        self.assertEqual((twin.kept(), twin.asked, twin.history(), twin.is_supposing), ([("a", "b"), ("b", "b")], 3, (2, 1), False))
        self.assertEqual(book.kept(), [("a", "b")])
        self.assertTrue(twin.verdict("a", "b"))
        self.assertFalse(book.verdict("a", "b"))
        self.assertEqual(twin.program_of("a").world, supposed)
        twin.undo()
        self.assertEqual((twin.world, twin.names(), twin.kept(), twin.history()), (WORLD, ["a"], [], (1, 2)))
        twin.redo()
        self.assertEqual((twin.world, twin.names(), twin.history()), (supposed, ["a", "b"], (2, 1)))
        self.assertTrue(twin.verdict("a", "b"))
        twin.redo()
        self.assertEqual((twin.world, twin["a"], twin.history()), (WORLD, "f(x) + 1 - 1", (3, 0)))
        twin.undo()
        self.assertEqual((twin.world, twin["a"]), (supposed, "f(x)"))
        twin.put("c", "1")
        self.assertEqual(twin.world, supposed)
        self.assertEqual((book.names(), book.history()), (["a", "b"], (2, 1)))

    def test_while_under_within_under_runs(self):
        book = filled(("a", "f(x)"))
        twin = book.under(lambda held: held.under(lambda inner: inner.twin(), h=EVEN), f=EVEN)
        self.assertEqual(twin.world, WORLD.with_fact("f", EVEN).with_fact("h", EVEN))
        twin.assume("h", Unseen())
        self.assertEqual(twin.world, WORLD.with_fact("f", EVEN))
        twin.undo()
        twin.undo()
        self.assertEqual((twin.world, twin.names()), (WORLD, []))
        self.assertEqual(book.names(), ["a"])


if __name__ == "__main__":
    unittest.main()
