"""Slot codes: rows, texts, forms and numbers ([17])."""

import random
import unittest

import codey
import oracle
from bridge import fraction, package_witness, random_world
from helpers import ANY_VALUES, Case
from oracle import FormText
from unseenslopes.calculus import input_form, integral_of, unseen_at
from unseenslopes.codes import Code
from unseenslopes.curves import Curve, Sheet
from unseenslopes.errors import InvalidRow, UnlikeWorlds
from unseenslopes.forms import Form, constant
from unseenslopes.programs import Program
from unseenslopes.ratios import Ratio
from unseenslopes.tracing import trace
from unseenslopes.unseen import Unseen, World
from unseenslopes.witnesses import Witness

WORLD = World(["x", "y"], {"f": Unseen(), "e": Unseen(mirror="even", centre=1), "p": Unseen(degree=2), "g": Unseen(2, swap="same")})
BEGIN = [(0, "in", "x"), (1, "put", Ratio(2))]


def witness(world=WORLD, x=3):
    functions = {"f": Curve([1, 2, 3]), "e": Curve([0, -2, 1]), "p": Curve([5, 0, 1]), "g": Sheet([(1, 1, 2), (0, 0, 1)])}
    return Witness(world, inputs={"x": x, "y": Ratio(1, 2)}, functions=functions)


class TestRows(Case):
    def test_every_word(self):
        x, y = input_form(WORLD, "x"), input_form(WORLD, "y")
        rows = [
            ((2, "in", "y"), "2 = in y", y, Ratio(1, 2)), ((2, "in", "x"), "2 = in x", x, 3), ((2, "put", Ratio(0)), "2 = put 0", constant(0), 0),
            ((2, "put", Ratio(-3, 4)), "2 = put -3/4", constant(Ratio(-3, 4)), Ratio(-3, 4)), ((2, "put", Ratio(-7)), "2 = put -7", constant(-7), -7),
            ((2, "add", 0, 1), "2 = add 0 1", x + 2, 5), ((2, "sub", 0, 1), "2 = sub 0 1", x - 2, 1), ((2, "sub", 1, 0), "2 = sub 1 0", 2 - x, -1),
            ((2, "mul", 0, 1), "2 = mul 0 1", 2 * x, 6), ((2, "mul", 0, 0), "2 = mul 0 0", x * x, 9), ((2, "add", 0, 0), "2 = add 0 0", 2 * x, 6),
            ((2, "sub", 0, 0), "2 = sub 0 0", constant(0), 0), ((2, "one", "f", 0, 0), "2 = one f 0 0", unseen_at(WORLD, "f", [0], [x]), 34),
            ((2, "one", "f", 1, 1), "2 = one f 1 1", unseen_at(WORLD, "f", [1], [2]), 14), ((2, "one", "f", 12, 0), "2 = one f 12 0",
                                                                                       unseen_at(WORLD, "f", [12], [x]), 0),
            ((2, "one", "f", -1, 1), "2 = one f -1 1", integral_of(WORLD, 0, 2, "f"), 14),
            ((2, "one", "e", -1, 1), "2 = one e -1 1", integral_of(WORLD, 1, 2, "e"), Ratio(-2, 3)),
            ((2, "one", "e", 1, 0), "2 = one e 1 0", unseen_at(WORLD, "e", [1], [x]), 4),
            ((2, "one", "p", 0, 0), "2 = one p 0 0", unseen_at(WORLD, "p", [0], [x]), 14), ((2, "one", "p", 3, 0), "2 = one p 3 0", constant(0), 0),
            ((2, "one", "p", -1, 0), "2 = one p -1 0", integral_of(WORLD, 0, x, "p"), 24),
            ((2, "two", "g", (0, 0), 0, 1), "2 = two g 0,0 0 1", unseen_at(WORLD, "g", [0, 0], [x, 2]), 13),
            ((2, "two", "g", (1, 0), 0, 1), "2 = two g 1,0 0 1", unseen_at(WORLD, "g", [1, 0], [x, 2]), 4),
            ((2, "two", "g", (0, 1), 0, 1), "2 = two g 0,1 0 1", unseen_at(WORLD, "g", [0, 1], [x, 2]), 6),
            ((2, "two", "g", (12, 12), 1, 1), "2 = two g 12,12 1 1", unseen_at(WORLD, "g", [12, 12], [2, 2]), 0),
        ]
        for row, text, form, number in rows:
            code = Code(WORLD, [*BEGIN, row], [2])
            self.assertEqual(str(code), f"0 = in x; 1 = put 2; {text}; answer 2")
            self.assertEqual(code.listing(), [*BEGIN, row])
            self.assertEqual(code.forms(), [form], text)
            self.assertEqual(code.numbers(witness()), [number], text)
            self.assertIs(type(code.forms()[0]), Form)
            self.assertIs(type(code.numbers(witness())[0]), Ratio)

    def test_answers(self):
        rows = [(0, "in", "x"), (3, "in", "y"), (0, "mul", 0, 3)]
        code = Code(WORLD, rows, [3, 0, 3])
        self.assertEqual(code.answer_slots(), [3, 0, 3])
        self.assertEqual(str(code), "0 = in x; 3 = in y; 0 = mul 0 3; answer 3 0 3")
        self.assertEqual([str(form) for form in code.forms()], ["y", "x*y", "y"])
        self.assertEqual(code.numbers(witness()), [Ratio(1, 2), Ratio(3, 2), Ratio(1, 2)])
        self.assertEqual((code.width, len(code), repr(code)), (4, 3, "Code(3 rows)"))

    def test_the_word_answer_is_there_once(self):
        rows = [(0, "in", "x"), (12, "put", Ratio(-3, 4)), (0, "two", "g", (10, 2), 0, 12)]
        begin = "0 = in x; 12 = put -3/4; 0 = two g 10,2 0 12; "
        for answers, text in [([], "answer"), ([12], "answer 12"), ([0, 12], "answer 0 12"), ((12, 0, 12, 12), "answer 12 0 12 12")]:
            self.assertEqual(str(Code(WORLD, rows, answers)), begin + text)
            self.assertEqual(Code(WORLD, rows, answers), Code(WORLD, tuple(rows), list(answers)))
        self.assertNotEqual(Code(WORLD, rows, [0, 12]), Code(WORLD, rows, [12, 0]))
        self.assertEqual(str(Code(WORLD, [], [])), "answer")

    def test_nothing(self):
        code = Code(WORLD, [], [])
        self.assertEqual((code.listing(), code.answer_slots(), code.forms(), code.numbers(witness())), ([], [], [], []))
        self.assertEqual((str(code), repr(code), len(code), code.width), ("answer", "Code(0 rows)", 0, 0))
        code = Code(WORLD, [(5, "put", Ratio(1))], [])
        self.assertEqual((str(code), repr(code), len(code), code.width), ("5 = put 1; answer", "Code(1 rows)", 1, 6))
        self.assertEqual((code.forms(), code.numbers(witness())), ([], []))
        self.assertEqual(Code(World([], {}), [(0, "put", Ratio(1))], [0]).numbers(Witness(World([], {}), inputs={}, functions={})), [1])

    def test_slots_written_again(self):
        rows = [(0, "in", "x"), (0, "add", 0, 0), (1, "put", Ratio(1)), (0, "sub", 0, 1), (1, "mul", 0, 1), (1, "mul", 1, 1), (0, "in", "y")]
        code = Code(WORLD, rows, [0, 1])
        self.assertEqual([str(form) for form in code.forms()], ["y", "1 - 4*x + 4*x^2"])
        self.assertEqual(code.numbers(witness()), [Ratio(1, 2), 25])
        self.assertEqual(code.width, 2)

    def test_slots_far_apart(self):
        far = 10 ** 29
        code = Code(WORLD, [(far, "in", "x"), (7, "put", Ratio(2)), (far, "mul", far, 7), (1000000, "add", 7, far)], [1000000, far])
        self.assertEqual(code.width, far + 1)
        self.assertEqual([str(form) for form in code.forms()], ["2 + 2*x", "2*x"])
        self.assertEqual(str(code), f"{far} = in x; 7 = put 2; {far} = mul {far} 7; 1000000 = add 7 {far}; answer 1000000 {far}")

    def test_put(self):
        for number in [Ratio(0), Ratio(-5), Ratio(10 ** 30 - 1), Ratio(5), Ratio(1, 3), Ratio(-10 ** 29, 7)]:
            code = Code(WORLD, [(0, "put", number)], [0])
            self.assertIs(type(code.listing()[0][2]), Ratio)
            self.assertEqual(code.listing(), [(0, "put", number)])
            self.assertEqual(str(code), f"0 = put {number}; answer 0")
            self.assertEqual(code.numbers(witness()), [number])
        self.assertEqual(Code(WORLD, [(0, "put", Ratio(2))], []), Code(WORLD, [(0, "put", Ratio(4, 2))], []))

    def test_numbers_of_any_size(self):
        huge = Ratio(10 ** 29)
        for _ in range(200):
            huge = huge * 10 ** 29
        code = Code(WORLD, [(0, "put", huge)], [0])
        self.assertEqual(str(code), f"0 = put {huge}; answer 0")
        self.assertEqual(code.numbers(witness()), [huge])

    def test_world(self):
        self.assertIs(Code(WORLD, BEGIN, [0]).world, WORLD)
        self.assertEqual(Code(answers=[1], code_rows=BEGIN, world=WORLD), Code(WORLD, BEGIN, [1]))

    def test_equality(self):
        code = Code(WORLD, BEGIN, [0])
        other = World(["x", "y"], {"f": Unseen()})
        self.assertTrue(code == Code(World(["x", "y"], {name: WORLD.fact(name) for name in "gpfe"}), tuple(BEGIN), (0,)))
        for unlike in [Code(WORLD, BEGIN, [1]), Code(WORLD, BEGIN, []), Code(WORLD, BEGIN[:1], [0]), Code(other, BEGIN, [0]), Code(WORLD, BEGIN, [0, 0]),
                       Code(WORLD, [(0, "in", "x"), (1, "put", Ratio(3))], [0]), Code(WORLD, BEGIN[::-1], [0]), Code(WORLD, [(0, "in", "y"), (1, "put", Ratio(2))], [0])]:
            self.assertFalse(code == unlike)
            self.assertTrue(code != unlike)
        for value in [*ANY_VALUES, str(code), WORLD]:
            self.assertFalse(code == value)
            self.assertTrue(code != value)

    def test_lists_are_copied(self):
        rows, answers = list(BEGIN), [0]
        code = Code(WORLD, rows, answers)
        rows.append((0, "put", Ratio(1)))
        answers.append(7)
        for told in (code.listing(), code.answer_slots(), code.forms(), code.numbers(witness())):
            told.append(9)
        self.assertEqual(code.listing(), BEGIN)
        self.assertEqual(code.answer_slots(), [0])
        self.assertEqual((len(code), str(code)), (2, "0 = in x; 1 = put 2; answer 0"))
        self.assertEqual((len(code.forms()), len(code.numbers(witness()))), (1, 1))
        again = Code(WORLD, code.listing(), code.answer_slots())
        self.assertEqual(again, code)

    def test_numbers_of_unlike_worlds(self):
        code = Code(WORLD, BEGIN, [0])
        other = World(["y", "x"], {name: WORLD.fact(name) for name in WORLD.functions()})
        self.assert_fails(UnlikeWorlds(), code.numbers, witness(other))
        free = WORLD.with_fact("e", Unseen())
        self.assert_fails(UnlikeWorlds(), code.numbers, witness(free))
        self.assert_fails(UnlikeWorlds(), Code(WORLD, [], []).numbers, witness(free))
        self.assertEqual(code.numbers(witness=witness()), [3])


class TestInvalidRows(Case):
    def fails(self, row):
        """A row that is none, at three places."""
        lists = [([row], 0), ([*BEGIN, row], 2), ([*BEGIN, (2, "add", 0, 1), row, row, None], 3), ((*BEGIN, row, (0, "put", Ratio(5))), 2)]
        for rows, index in lists:
            self.assert_fails(InvalidRow(index), Code, WORLD, rows, [0])
            self.assert_fails(InvalidRow(index), Code, WORLD, rows, ["no slot"])

    def test_any_value(self):
        for value in [*ANY_VALUES, (0, 1, 2), (0, "in"), (0,), [0, "in", "x"], ["0", "in", "x"], "0 = in x", ((0, "in", "x"),), {}, Ratio(1)]:
            self.fails(value)

    def test_slots_that_are_written(self):
        for slot in [-1, None, True, False, "0", "", [0], (0,), Ratio(0), -10 ** 29]:
            for rest in [("in", "x"), ("put", Ratio(1)), ("add", 0, 1), ("sub", 0, 1), ("mul", 0, 0), ("one", "f", 0, 0), ("two", "g", (0, 0), 0, 1)]:
                self.fails((slot, *rest))

    def test_words(self):
        for word in ["", "IN", "input", "div", "neg", "x", "in ", None, 0, True, ["in"], ("in",), "one two"]:
            self.fails((2, word, "x"))
            self.fails((2, word, 0, 1))
            self.fails((2, word, "f", 0, 0))
            self.fails((2, word, "g", (0, 0), 0, 1))

    def test_lengths(self):
        for row in [(2, "in", "x"), (2, "put", Ratio(1)), (2, "add", 0, 1), (2, "sub", 0, 1), (2, "mul", 0, 0), (2, "one", "f", 0, 0), (2, "two", "g", (0, 0), 0, 1)]:
            Code(WORLD, [*BEGIN, row], [2])
            self.fails(row[:-1])
            self.fails((*row, 0))
            self.fails((*row, row[-1]))
            self.fails(list(row))

    def test_names(self):
        for name in ["z", "f", "g", "", "X", None, 0, True, ["x"], ("x",), "x "]:
            self.fails((2, "in", name))
        for name in ["x", "g", "z", "", None, 1, True, ["f"], ("f",)]:
            self.fails((2, "one", name, 0, 0))
        for name in ["x", "f", "e", "p", "z", "", None, 2, ["g"], ("g",)]:
            self.fails((2, "two", name, (0, 0), 0, 1))

    def test_numbers(self):
        for value in [*ANY_VALUES, 0, 1, -1, 2, 10 ** 29, True, False, "1", "", [1], (1,), (), "1/2", (1, 2), [Ratio(1)], (Ratio(1),)]:
            self.fails((2, "put", value))

    def test_integers_in_rows_that_are_told(self):
        rows = trace(Program(WORLD, "2 * x + 1/3")).listing()
        puts = [index for index, row in enumerate(rows) if row[1] == "put"]
        self.assertEqual(len(puts), 2)
        for index in puts:
            slot, word, ratio = rows[index]
            self.assertIs(type(ratio), Ratio)
            Code(WORLD, [*rows[:index], (slot, word, Ratio(5)), *rows[index + 1:]], [])
            self.assert_fails(InvalidRow(index), Code, WORLD, [*rows[:index], (slot, word, ratio.top), *rows[index + 1:]], [])

    def test_numbers_of_slopes(self):
        for order in [-2, 13, None, True, False, "0", [0], (0,), (), Ratio(1), 10 ** 29]:
            self.fails((2, "one", "f", order, 0))
            self.fails((2, "one", "p", order, 0))
            self.fails((2, "two", "g", (order, 0), 0, 1))
            self.fails((2, "two", "g", (0, order), 0, 1))
            self.fails((2, "two", "g", order, 0, 1))
        for pair in [(-1, 0), (0, -1), (0,), (0, 0, 0), [0, 0], "00", (0, (0,)), ((0, 0), 0), ((0, 0),)]:
            self.fails((2, "two", "g", pair, 0, 1))
        for order in range(-1, 13):
            Code(WORLD, [*BEGIN, (2, "one", "f", order, 0)], [2])
            if order >= 0:
                Code(WORLD, [*BEGIN, (2, "two", "g", (order, 12 - order), 0, 1)], [2])

    def test_slots_that_are_read(self):
        for slot in [-1, 2, 3, 10 ** 29, None, True, False, "0", [0], (0,), Ratio(0)]:
            rows = [(2, "add", slot, 0), (2, "add", 0, slot), (2, "sub", slot, 1), (2, "sub", 1, slot), (2, "mul", slot, 0), (2, "mul", 0, slot),
                    (2, "one", "f", 0, slot), (2, "two", "g", (0, 0), slot, 0), (2, "two", "g", (0, 0), 0, slot)]
            for row in rows:
                self.assert_fails(InvalidRow(2), Code, WORLD, [*BEGIN, row], [])
                self.assert_fails(InvalidRow(3), Code, WORLD, [*BEGIN, (5, "put", Ratio(0)), row, (slot, "put", Ratio(1)), (0, "bad")], [])

    def test_a_row_reads_before_it_writes(self):
        self.assert_fails(InvalidRow(0), Code, WORLD, [(0, "add", 0, 0)], [0])
        self.assert_fails(InvalidRow(1), Code, WORLD, [(0, "in", "x"), (1, "mul", 0, 1)], [0])
        self.assert_fails(InvalidRow(0), Code, WORLD, [(0, "one", "f", 0, 1), (1, "in", "x")], [0])

    def test_first_invalid_row(self):
        self.assert_fails(InvalidRow(1), Code, WORLD, [(0, "in", "x"), (1, "add", 0, 4), (2, "bad", 1)], [9])
        self.assert_fails(InvalidRow(1), Code, WORLD, [(0, "in", "x"), (1, "bad"), (2, "add", 0, 7)], [9])

    def test_answers(self):
        no_slots = [value for value in ANY_VALUES if isinstance(value, bool) or value not in (0, 1)]
        for value in [*no_slots, 2, -1, 10 ** 29, Ratio(0), [0], (1,), "0"]:
            for answers in ([value], [0, value], (1, 0, value, value), [value, 0]):
                self.assert_fails(InvalidRow(2), Code, WORLD, BEGIN, answers)
                self.assert_fails(InvalidRow(0), Code, WORLD, [], answers)
        self.assert_fails(InvalidRow(0), Code, WORLD, (), (0,))


class TestRandomCodes(Case):
    def test_forms_and_numbers(self):
        source = random.Random(61)
        for _ in range(150):
            world = random_world(source)
            code = codey.random_code(world, source)
            forms = code.forms()
            self.assertEqual(len(forms), len(code.answer_slots()))
            self.assertEqual(Code(world, code.listing(), code.answer_slots()), code)
            for _ in range(2):
                drawn = oracle.Witness(world, source)
                found = codey.worths(code, drawn)
                self.assertEqual([FormText(form.text, drawn).answer() for form in forms], found, str(code))
                given = package_witness(world, drawn)
                self.assertEqual([fraction(number) for number in code.numbers(given)], found)
                self.assertEqual([given.worth(form) for form in forms], code.numbers(given))

    def test_texts_tell_codes(self):
        source = random.Random(62)
        for _ in range(100):
            world = random_world(source)
            code = codey.random_code(world, source)
            self.assertEqual(codey.read_code(world, str(code)), (code.listing(), code.answer_slots()), str(code))

    def test_long_codes(self):
        rows = [(0, "in", "x")] + [(0, "one", "f", 1, 0) for _ in range(399)]
        form = Code(WORLD, rows, [0]).forms()[0]
        self.assertEqual(form.text, "f[1](" * 399 + "x" + ")" * 399)
        rows = [(0, "in", "x"), (1, "put", Ratio(1))] + [(0, "add", 0, 1) for _ in range(398)]
        self.assertEqual(str(Code(WORLD, rows, [0]).forms()[0]), "398 + x")
        self.assertEqual(Code(WORLD, rows, [0]).numbers(witness()), [401])


if __name__ == "__main__":
    unittest.main()
