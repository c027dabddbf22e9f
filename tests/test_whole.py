"""One program by all ways: texts, worlds, machines, codes, answers, slopes, verdicts, notebooks and pages tell the same."""

import random
import unittest

import codey
import oracle
from bridge import fraction, oracle_witness, package_witness, program_with, random_fact, random_program, random_world
from helpers import Case
from oracle import FormText
from slopy import ShiftMaker
from unseenslopes.back import way_back
from unseenslopes.calculus import slope_of
from unseenslopes.codes import Code
from unseenslopes.meaning import meaning
from unseenslopes.notebook import Notebook
from unseenslopes.packing import alive_counts, packed, shared
from unseenslopes.pages import read_page, write_page
from unseenslopes.reach import can_exchange, hangs_on, is_additive, reads
from unseenslopes.rules import right_rules
from unseenslopes.tagged import Rule, machine_form
from unseenslopes.tracing import trace
from unseenslopes.verdicts import compare


class TestWhole(Case):
    def test_drawn_programs(self):
        source = random.Random(111)
        many = 0
        for _ in range(70):
            world = random_world(source)
            made, program = random_program(world, source, depth=3)
            if len(meaning(program).terms()) < 60:
                many += 1
                self.check(world, made, program, source)
        self.assertGreater(many, 50)

    def test_programs_with_slopes_of_functions_that_answer_functions(self):
        source = random.Random(112)
        many = 0
        for _ in range(25):
            world = random_world(source)
            making = ShiftMaker(world, source)
            made, program = program_with(world, source, making, making.lets())
            if len(meaning(program).terms()) < 40:
                many += 1
                self.check(world, made, program, source)
        self.assertGreater(many, 15)

    def check(self, world, made, program, source):
        drawn = oracle.Witness(world, source)
        answer = made.run(drawn).worth
        witness = package_witness(world, drawn)
        form = meaning(program)
        self.assertEqual(fraction(witness.answer(program)), answer)
        self.assertEqual(fraction(witness.worth(form)), answer)
        self.assertEqual(FormText(form.text, drawn).answer(), answer)
        self.assertEqual(machine_form(program, Rule()), form)
        self.assertIn("new renewed", right_rules(program))
        self.check_codes(world, program, form, witness, answer)
        self.check_books(world, program, form, source)
        self.check_reach(world, program, form)

    def check_codes(self, world, program, form, witness, answer):
        code = trace(program)
        slopes = [slope_of(world, form, name) for name in world.inputs()]
        numbers = [witness.slope_answer(program, name) for name in world.inputs()]
        ways = [code, shared(code), packed(code), packed(shared(code)), shared(packed(code)), packed(packed(code)), shared(shared(code))]
        for way in ways:
            self.assertEqual(way.forms(), [form])
            self.assertEqual([fraction(number) for number in way.numbers(witness)], [answer])
            self.assertEqual(packed(way).width, max(alive_counts(way)))
        for way in ways[:4]:
            back = way_back(way)
            self.assertLessEqual(len(back), 7 * len(way) + 8)
            for found in (back, shared(back), packed(back), packed(shared(back))):
                self.assertEqual(found.forms(), slopes)
                self.assertEqual(found.numbers(witness), numbers)
        self.assertEqual(codey.values_of(packed(code)), codey.values_of(code))
        self.assertEqual(Code(world, code.listing(), code.answer_slots()), code)
        if len(code) < 30:
            back = way_back(code)
            seconds = [way_back(back, index).numbers(witness) for index in range(2)]
            self.assertEqual(seconds[0][1], seconds[1][0])
            self.assertEqual([seconds[0][0], seconds[1][1]], [witness.slope_answer(program, name, 2) for name in world.inputs()])

    def check_books(self, world, program, form, source):
        book = Notebook(world)
        book["p"] = program.text if len(program.text) <= 600 else "0"
        book["q"] = "x * f(x) - h(y)"
        self.assertEqual(book.program_of("p").text, book["p"])
        verdict = book.verdict("p", "q")
        self.assertTrue(verdict.holds())
        self.assertEqual(bool(verdict), meaning(book.program_of("p")) == meaning(book.program_of("q")))
        if not verdict:
            drawn = oracle_witness(verdict.witness, source)
            self.assertEqual([FormText(meaning(book.program_of(name)).text, drawn).answer() for name in "pq"], [fraction(part) for part in verdict.answers()])
        self.assertEqual(bool(compare(book.program_of("p"), book.program_of("q"))), bool(verdict))
        again = read_page(write_page(book))
        self.assertTrue(again == book)
        self.assertEqual(meaning(again.program_of("p")), meaning(book.program_of("p")))
        fact = random_fact(source)
        supposed = world.with_fact("f", fact)
        self.assertEqual(book.under(lambda held: meaning(held.program_of("p")), f=fact), meaning(book.program_of("p").in_world(supposed)))
        twin = book.under(lambda held: held.twin(), f=fact)
        book.assume("f", fact)
        self.assertEqual(write_page(twin), write_page(book))
        self.assertEqual(bool(twin.verdict("p", "q")), bool(book.verdict("p", "q")))
        book.undo()
        self.assertEqual(bool(book.verdict("p", "q")), bool(verdict))

    def check_reach(self, world, program, form):
        for name in world.inputs():
            slope = slope_of(world, form, name)
            self.assertTrue(slope.is_zero or hangs_on(program, name))
        for name in world.functions():
            self.assertIs(hangs_on(program, name), len(reads(program, name)) > 0)
            if not hangs_on(program, name):
                self.assertIs(is_additive(program, name), form.is_zero)
        verdict = can_exchange(program, "f", "h")
        self.assertTrue(verdict.holds())
        back = verdict.other.renamed({"f": "h", "h": "f"})
        self.assertEqual((back, meaning(back)), (program, form))


if __name__ == "__main__":
    unittest.main()
