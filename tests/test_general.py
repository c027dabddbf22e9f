"""The general rules over the whole program ([2])."""

import unittest

from helpers import Case
from unseenslopes.back import way_back
from unseenslopes.blanks import Filling, NoFilling, fill
from unseenslopes.calculus import input_form, integral_of, put_for, slope_of, unseen_at
from unseenslopes.codes import Code
from unseenslopes.curves import Curve, Sheet
from unseenslopes.errors import InvalidNumber, InvalidRow, InvalidWitness, SlopeError, UnknownName, UnlikeWorlds
from unseenslopes.forms import constant
from unseenslopes.meaning import meaning
from unseenslopes.notebook import Notebook
from unseenslopes.packing import alive_counts, packed, shared
from unseenslopes.pages import read_page, write_page
from unseenslopes.places import witness_for
from unseenslopes.programs import Program
from unseenslopes.ratios import Ratio
from unseenslopes.reach import can_exchange, hangs_on, is_additive, reads
from unseenslopes.rules import Trial, right_rules, try_rule
from unseenslopes.tagged import Rule, machine_form
from unseenslopes.tracing import trace
from unseenslopes.unseen import Unseen, World, is_name
from unseenslopes.verdicts import Alike, Apart, Verdict, compare, compare_near, order_of
from unseenslopes.witnesses import Witness

WORLD = World(["x", "h"], {"f": Unseen(), "e": Unseen(mirror="even"), "g": Unseen(2)})
SHAPES = {"f": Curve([1, 2]), "e": Curve([0, 0, 3]), "g": Sheet([(1, 0, 1)])}
ROWS = [(0, "in", "x"), (1, "put", Ratio(2)), (0, "mul", 0, 1)]


def made(text, world=WORLD):
    return Program(world, text)


def witness(x=2, h=0, shapes=None):
    return Witness(WORLD, inputs={"x": x, "h": h}, functions=shapes or SHAPES)


class TestByName(Case):
    def test_functions_and_classes(self):
        one, other = made("f(x)"), made(text="f(x + h)", world=WORLD)
        x = input_form(name="x", world=WORLD)
        rows = [
            (is_name(value="x"), is_name("x")), (Ratio(bottom=4, top=6), Ratio(6, 4)), (Ratio(1).over(other=3), Ratio(1, 3)), (Ratio.read(text="1/2"), Ratio(1, 2)),
            (Unseen.read(text="2 same"), Unseen(arity=2, swap="same")), (World(functions={}, inputs=["x"]), World(["x"], {})), (WORLD.fact(name="f"), Unseen()),
            (WORLD.with_fact(fact=Unseen(degree=1), name="f"), WORLD.with_fact("f", Unseen(degree=1))), (constant(number=3), constant(3)),
            (unseen_at(given=[x], orders=[1], name="f", world=WORLD), unseen_at(WORLD, "f", [1], [x])), (slope_of(name="x", form=x, world=WORLD), constant(1)),
            (integral_of(name="f", end=x, begin=0, world=WORLD), integral_of(WORLD, 0, x, "f")), (put_for(other=5, name="x", form=x, world=WORLD), constant(5)),
            (one.filled(numbers=[]), one), (one.in_world(world=WORLD), one), (one.renamed(names={"f": "e"}), made("e(x)")), (meaning(program=one), meaning(one)),
            (Rule(naming="one", renewed=False), Rule("one", renewed=False)), (machine_form(rule=Rule(), program=one), meaning(one)), (Curve(worths=[1])(place=7), 1),
            (Curve([1, 2]).slope_curve(times=1), Curve([2])), (Curve([1]).integral_curve(begin=1), Curve([-1, 1])), (Sheet(rows=[(0, 1, 2)])(one=1, other=3), 6),
            (Sheet([(0, 1, 2)]).slope_sheet(which=1), Sheet([(0, 0, 2)])), (witness().number_of(name="x"), 2), (witness().shape_of(name="f"), Curve([1, 2])),
            (witness().worth(form=x), 2), (witness().answer(program=one), 5), (witness().slope_answer(times=1, name="x", program=one), 2),
            (witness_for(form=constant(0), world=WORLD), None), (bool(compare(other=one, one=one)), True), (compare_near(other=other, one=one, name="h", power=1).power, 1),
            (order_of(other=other, one=one, name="h", most=2), 1), (try_rule(rule=Rule(), program=one).is_right, True), (len(right_rules(program=one)), 8),
            (Trial(witness=None, rule=Rule(), program=one).holds(), True), (fill(other=one, one=one, name="h", power=2).point(), []),
            (hangs_on(name="x", program=one), True), (reads(name="f", program=one), ["f(x)"]), (is_additive(name="f", program=one), True),
            (bool(can_exchange(other="e", one="f", program=one)), False), (Code(answers=[0], code_rows=ROWS, world=WORLD).numbers(witness=witness()), [4]),
            (trace(program=one).forms(), [meaning(one)]), (way_back(index=0, code=trace(one)).forms()[1], constant(0)), (shared(code=trace(one)), trace(one)),
            (alive_counts(code=trace(one)), [1, 1]), (len(packed(code=trace(one))), 2), (Verdict(other=one, one=one, power=2, name="x").power, 2),
            (Alike(other=one, one=one, power=2, name="x").holds(), True), (Apart(order=1, power=2, name="h", witness=witness(), other=other, one=one).holds(), True),
            (Filling(directions=[], point=[], other=one, one=one).holds(), True), (NoFilling(weights=[], other=one, one=one).holds(), False),
            (read_page(text="input x\n"), Notebook(world=World(["x"], {}))), (write_page(book=Notebook(WORLD))[:8], "input x\n"),
        ]
        for at, (found, want) in enumerate(rows):
            self.assertEqual(found, want, at)


class TestTuplesAndIntegers(Case):
    def test_tuples_in_the_place_of_lists(self):
        x = input_form(WORLD, "x")
        pairs = [
            (World(("x", "h"), {name: WORLD.fact(name) for name in "feg"}), WORLD), (unseen_at(WORLD, "g", (0, 1), (x, 2)), unseen_at(WORLD, "g", [0, 1], [x, 2])),
            (made("?1 * x").filled((2,)), made("2 * x")), (Curve((1, 2)), Curve([1, 2])), (Sheet(((0, 1, 2), (1, 0, 3))), Sheet([(0, 1, 2), (1, 0, 3)])),
            (Code(WORLD, tuple(ROWS), (0, 1)), Code(WORLD, ROWS, [0, 1])), (Code(WORLD, ROWS, (0,)).answer_slots(), [0]),
            (Filling(made("?1"), made("?2 + 1"), (1, 0), ((1, 1),)).directions(), [[1, 1]]), (Filling(made("?1"), made("?2 + 1"), (1, 0), ((1, 1),)).point(), [1, 0]),
            (Filling(made("?1"), made("?2 + 1"), (1, 0), ((1, 1),)).holds(), True), (NoFilling(made("1"), made("2"), ((0, "", -1),)).weights(), [(0, "", -1)]),
            (NoFilling(made("1"), made("2"), ((0, "", -1),)).holds(), True),
        ]
        for found, want in pairs:
            self.assertEqual(found, want)

    def test_integers_in_the_place_of_ratios(self):
        x = input_form(WORLD, "x")
        pairs = [
            (Unseen(mirror="odd", centre=2), Unseen(mirror="odd", centre=Ratio(4, 2))), (constant(2), constant(Ratio(2))), (x + 2, x + Ratio(2)), (2 - x, Ratio(2) - x),
            (x * 3, Ratio(3) * x), (unseen_at(WORLD, "f", [0], [2]), unseen_at(WORLD, "f", [0], [Ratio(2)])), (put_for(WORLD, x, "x", 2), put_for(WORLD, x, "x", Ratio(2))),
            (integral_of(WORLD, 0, 2, "f"), integral_of(WORLD, Ratio(0), constant(2), "f")), (made("?1").filled([-2]), made("?1").filled([Ratio(-2)])),
            (Curve([1, 2]), Curve([Ratio(1), Ratio(2)])), (Curve([0, 1]).integral_curve(2), Curve([0, 1]).integral_curve(Ratio(2))), (Curve([0, 1])(2), Ratio(2)),
            (Sheet([(0, 1, 2)]), Sheet([(0, 1, Ratio(2))])), (Sheet([(0, 1, 2)])(1, 3), Sheet([(0, 1, 2)])(Ratio(1), Ratio(3))), (witness(2), witness(Ratio(2))),
            (Ratio(3).over(2), Ratio(3).over(Ratio(2))),
            (Filling(made("?1"), made("?2 + 1"), [1, 0], [[1, 1]]).programs(2), Filling(made("?1"), made("?2 + 1"), [Ratio(1), 0], [[1, Ratio(1)]]).programs(Ratio(2))),
        ]
        for found, want in pairs:
            self.assertEqual(found, want)


class TestCopies(Case):
    def test_what_is_passed_stays_and_may_be_changed_later(self):
        inputs, functions = ["x", "h"], {name: WORLD.fact(name) for name in "feg"}
        rows, answers, worths, sheet = list(ROWS), [0], [1, 2, 0], [(1, 0, 1), (1, 0, 2)]
        numbers, shapes, names, point, directions, weights = {"x": 2, "h": 0}, dict(SHAPES), {"f": "e"}, [1, 0], [[1, 1]], [(0, "", -1)]
        orders, given, filling = [0], [2], [3]
        every = [inputs, functions, rows, answers, worths, sheet, numbers, shapes, names, point, directions, weights, orders, given, filling]
        before = [list(part.items()) if isinstance(part, dict) else [tuple(item) if isinstance(item, list) else item for item in part] for part in every]
        world, code, curve = World(inputs, functions), Code(WORLD, rows, answers), Curve(worths)
        table, held, renamed = Sheet(sheet), Witness(WORLD, inputs=numbers, functions=shapes), made("f(x)").renamed(names)
        filled, barred = Filling(made("?1"), made("?2 + 1"), point, directions), NoFilling(made("1"), made("2"), weights)
        form, number = unseen_at(WORLD, "f", orders, given), made("?1").filled(filling)
        after = [list(part.items()) if isinstance(part, dict) else [tuple(item) if isinstance(item, list) else item for item in part] for part in every]
        self.assertEqual(before, after)
        directions[0].append(7)
        for part in every:
            part.clear()
        self.assertEqual((world, world.inputs(), world.functions()), (WORLD, ["x", "h"], ["e", "f", "g"]))
        self.assertEqual((code, code.listing(), curve, table), (Code(WORLD, ROWS, [0]), ROWS, Curve([1, 2]), Sheet([(1, 0, 3)])))
        self.assertEqual((held, renamed.text, number.text, form.text), (witness(), "e(x)", "3", "f(2)"))
        self.assertEqual((filled.point(), filled.directions(), filled.holds()), ([1, 0], [[1, 1]], True))
        self.assertEqual((barred.weights(), barred.holds()), ([(0, "", -1)], True))

    def test_what_is_told_may_be_changed(self):
        filling = fill(made("?1 * x + ?2 * x"), made("3 * x"))
        book = Notebook(WORLD)
        book["a"] = "x"
        book.verdict("a", "a")
        told = [
            WORLD.inputs, WORLD.functions, meaning(made("x + h")).terms, made("?1 + ?2").blanks, Rule.every, Curve([1, 2]).worths, Sheet([(1, 2, 3)]).told_rows,
            witness().told, filling.point, filling.directions, fill(made("1"), made("2")).weights, Code(WORLD, ROWS, [0]).listing, Code(WORLD, ROWS, [0]).answer_slots,
            Code(WORLD, ROWS, [0]).forms, lambda: Code(WORLD, ROWS, [0]).numbers(witness()), lambda: alive_counts(Code(WORLD, ROWS, [0])), book.names, book.kept,
            lambda: reads(made("f(x)"), "f"), lambda: right_rules(made("x")),
        ]
        for call in told:
            found = call()
            self.assertIsInstance(found, list)
            self.assertTrue(found)
            kept = [list(part) if isinstance(part, list) else part for part in found]
            if isinstance(found[0], list):
                found[0].append("new")
            found.append("new")
            self.assertEqual(call(), kept)
        self.assertEqual(len(book), 1)

    def test_order_of_keys(self):
        shuffled = World(["x", "h"], {name: WORLD.fact(name) for name in "gef"})
        self.assertEqual((shuffled, shuffled.text), (WORLD, WORLD.text))
        found = Witness(WORLD, inputs={"h": 0, "x": 2}, functions={name: SHAPES[name] for name in "gef"})
        self.assertEqual((found, repr(found)), (witness(), repr(witness())))
        program = made("f(x) + e(h)")
        self.assertEqual(program.renamed({"e": "f", "f": "e"}), program.renamed({"f": "e", "e": "f"}))
        for names in ({"z": "f", "q": "f"}, {"q": "f", "z": "f"}):
            self.assert_fails(UnknownName("q"), program.renamed, names)
        for numbers in ({"z": 1, "q": 1}, {"q": 1, "z": 1}):
            self.assert_fails(UnknownName("q"), Witness, WORLD, inputs=numbers, functions={})


class TestReturnedValues(Case):
    def test_values_of_any_size_may_be_passed(self):
        huge = Ratio(10 ** 30 - 1, 10 ** 29)
        for _ in range(60):
            huge = huge * Ratio(10 ** 30 - 1, 10 ** 29)
        program = made("?1 * f(x) + ?1").filled([huge])
        self.assertGreater(len(program.text), 3000)
        self.assertTrue(compare(program, program).holds())
        verdict = compare(program, made("f(x)"))
        self.assertTrue(not verdict and verdict.holds())
        self.assertEqual(trace(program).forms(), [meaning(program)])
        self.assertEqual(way_back(trace(program)).numbers(verdict.witness), [verdict.witness.slope_answer(program, name) for name in "xh"])
        code = Code(WORLD, trace(program).listing() + [(99, "put", huge)], [99])
        self.assertEqual((code.numbers(witness()), meaning(made("?1").filled([huge])).terms()), ([huge], [("", huge)]))
        self.assertEqual(Curve([huge])(huge), huge)
        self.assertEqual(Unseen(mirror="even", centre=huge).centre, huge)
        self.assertEqual(Ratio(huge.top, huge.bottom), huge)

    def test_lists_that_are_told_may_be_passed_with_items_left_out(self):
        code = trace(made("f(x) * f(h) - g(x, h)"))
        rows = code.listing()
        self.assertEqual(Code(WORLD, rows[:-1], [len(rows) - 2]).listing(), rows[:-1])
        self.assert_fails(InvalidRow(1), Code, WORLD, [rows[0], rows[-1]], [0])
        back = way_back(code)
        self.assertEqual(Code(WORLD, back.listing(), back.answer_slots()[::-1]).forms(), back.forms()[::-1])
        filling = fill(made("?1 * x + ?2 * x"), made("3 * x"))
        self.assertTrue(Filling(filling.one, filling.other, filling.point(), []).holds())


class TestNothingChanges(Case):
    def test_calls_that_raise(self):
        book = Notebook(WORLD)
        book["a"] = "f(x)"
        page = write_page(book)
        code = Code(WORLD, ROWS, [0])
        calls = [
            (SlopeError, lambda: book.put("b", "f(")), (LookupError, lambda: book.drop("q")), (SlopeError, lambda: book.rename("a", "fn")),
            (LookupError, lambda: book.assume("q", Unseen())), (LookupError, lambda: book.verdict("a", "q")), (LookupError, book.redo),
            (LookupError, lambda: book.under(lambda held: held["q"], f=Unseen(degree=0))), (InvalidNumber, lambda: way_back(code, 1)),
            (UnlikeWorlds, lambda: code.numbers(Witness(World([], {}), inputs={}, functions={}))),
            (InvalidWitness, lambda: Witness(WORLD, inputs={"x": 1}, functions={})),
        ]
        for error, call in calls:
            with self.assertRaises(error):
                call()
            self.assertEqual((write_page(book), book.history(), book.asked, book.kept(), book.is_supposing), (page, (1, 0), 0, [], False))
            self.assertEqual((code, code.forms()), (Code(WORLD, ROWS, [0]), [2 * input_form(WORLD, "x")]))

    def test_what_returns_nothing(self):
        book = Notebook(WORLD)
        self.assertEqual([book.put("a", "x"), book.rename("a", "b"), book.assume("f", Unseen()), book.drop("b"), book.undo(), book.redo()], [None] * 6)


if __name__ == "__main__":
    unittest.main()
