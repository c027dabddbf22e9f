"""Slot code with fewer rows or fewer slots ([18], shared, alive_counts, packed)."""

import random
import unittest

import codey
import oracle
from bridge import package_witness, random_program, random_world
from helpers import Case
from unseenslopes.back import way_back
from unseenslopes.codes import Code
from unseenslopes.packing import alive_counts, packed, shared
from unseenslopes.programs import Program
from unseenslopes.ratios import Ratio
from unseenslopes.tracing import trace
from unseenslopes.unseen import Unseen, World

WORLD = World(["x", "y"], {"f": Unseen(), "e": Unseen(mirror="even"), "p": Unseen(degree=1), "g": Unseen(2, swap="same")})
BEGIN = [(0, "in", "x"), (1, "in", "y")]


def naive_shared(code):
    """The rows that stay, row by row as [18] says it."""
    rows, answers = codey.values_of(code)
    slots = [[(index, *deed, *reads) for index, (deed, reads) in enumerate(rows)][:end + 1] for end in range(len(rows))]
    forms = [str(Code(code.world, part, [len(part) - 1]).forms()[0]) for part in slots]
    first = [forms.index(form) for form in forms]
    rows = {index: (deed, tuple(first[read] for read in reads)) for index, (deed, reads) in enumerate(rows) if first[index] == index}
    answers = [first[answer] for answer in answers]
    while True:
        read = {slot for _, reads in rows.values() for slot in reads} | set(answers)
        idle = [index for index in rows if index not in read]
        if not idle:
            break
        for index in idle:
            del rows[index]
    order = {index: place for place, index in enumerate(rows)}
    listing = [(order[index], *deed, *(order[read] for read in reads)) for index, (deed, reads) in rows.items()]
    return Code(code.world, listing, [order[answer] for answer in answers])


def spans(code):
    """For each row, the last row up to which its value is kept; the number of rows for an answer."""
    rows, answers = codey.values_of(code)
    ends = []
    for index in range(len(rows)):
        readers = [later for later, (_, reads) in enumerate(rows) if index in reads]
        ends.append(len(rows) if index in answers else max(readers, default=index))
    return ends


def naive_counts(code):
    ends = spans(code)
    return [1 + sum(1 for value in range(row) if ends[value] > row) for row in range(len(code))]


def naive_packed(code):
    """Each row writes into the lowest slot whose values are all over by then."""
    rows, answers = codey.values_of(code)
    ends = spans(code)
    places = []
    for index in range(len(rows)):
        busy = {places[value] for value in range(index) if ends[value] > index}
        places.append(next(slot for slot in range(index + 1) if slot not in busy))
    listing = [(places[index], *deed, *(places[read] for read in reads)) for index, (deed, reads) in enumerate(rows)]
    return Code(code.world, listing, [places[answer] for answer in answers])


class TestShared(Case):
    def check(self, code):
        before = str(code)
        found = shared(code)
        self.assertIs(type(found), Code)
        codey.assert_straight(self, found)
        self.assertEqual(found, naive_shared(code), before)
        self.assertEqual(found.forms(), code.forms())
        self.assertEqual(shared(found), found)
        self.assertEqual(str(code), before)
        return str(found)

    def test_codes(self):
        rows = [
            ([*BEGIN, (2, "add", 0, 1), (3, "add", 1, 0), (4, "mul", 2, 3)], [4], "0 = in x; 1 = in y; 2 = add 0 1; 3 = mul 2 2; answer 3"),
            ([(0, "in", "x"), (1, "in", "x"), (2, "mul", 1, 1)], [2, 1], "0 = in x; 1 = mul 0 0; answer 1 0"),
            ([(0, "put", Ratio(2)), (1, "add", 0, 0), (2, "mul", 0, 0), (3, "put", Ratio(4))], [2, 3], "0 = put 2; 1 = add 0 0; answer 1 1"),
            ([*BEGIN, (2, "one", "f", 0, 0), (3, "one", "f", 0, 1)], [2], "0 = in x; 1 = one f 0 0; answer 1"),
            ([*BEGIN, (2, "one", "f", 0, 0), (3, "one", "f", 0, 2)], [1], "0 = in y; answer 0"),
            ([*BEGIN], [], "answer"), ([], [], "answer"),
            ([(0, "in", "x"), (1, "put", Ratio(0)), (2, "sub", 1, 0), (3, "one", "e", 0, 0), (4, "one", "e", 0, 2), (5, "mul", 3, 4)], [5],
             "0 = in x; 1 = one e 0 0; 2 = mul 1 1; answer 2"),
            ([(0, "in", "x"), (1, "put", Ratio(0)), (2, "sub", 1, 0), (3, "one", "e", 0, 2), (4, "one", "e", 0, 0), (5, "mul", 3, 4)], [5],
             "0 = in x; 1 = put 0; 2 = sub 1 0; 3 = one e 0 2; 4 = mul 3 3; answer 4"),
            ([*BEGIN, (2, "two", "g", (1, 0), 0, 1), (3, "two", "g", (0, 1), 1, 0), (4, "sub", 2, 3)], [3, 2],
             "0 = in x; 1 = in y; 2 = two g 1,0 0 1; answer 2 2"),
            ([*BEGIN, (2, "one", "p", 1, 0), (3, "one", "p", 1, 1), (4, "add", 2, 3)], [4], "0 = in x; 1 = one p 1 0; 2 = add 1 1; answer 2"),
            ([(0, "in", "x"), (1, "put", Ratio(1)), (0, "add", 0, 1), (2, "in", "x"), (1, "add", 1, 2)], [0, 1], "0 = in x; 1 = put 1; 2 = add 0 1; answer 2 2"),
            ([(0, "in", "x"), (0, "mul", 0, 0), (0, "in", "x"), (0, "mul", 0, 0)], [0], "0 = in x; 1 = mul 0 0; answer 1"),
            ([(0, "put", Ratio(1)), (1, "put", Ratio(2)), (2, "add", 0, 0), (3, "in", "x"), (2, "mul", 2, 3)], [2], "0 = put 2; 1 = in x; 2 = mul 0 1; answer 2"),
            ([(0, "put", Ratio(1)), (2, "add", 0, 0), (1, "put", Ratio(2)), (3, "in", "x"), (2, "mul", 1, 3)], [2], "0 = put 1; 1 = add 0 0; 2 = in x; 3 = mul 1 2; answer 3"),
        ]
        for listing, answers, text in rows:
            self.assertEqual(self.check(Code(WORLD, listing, answers)), text)
        self.assertEqual(shared(code=Code(WORLD, BEGIN, [1])).listing(), [(0, "in", "y")])

    def test_equal_forms_by_facts_of_the_world(self):
        rows = [(0, "in", "x"), (1, "put", Ratio(2)), (2, "sub", 1, 0), (3, "one", "f", 0, 0), (4, "one", "f", 0, 2), (5, "add", 3, 4)]
        for fact, many in [(Unseen(), 6), (Unseen(mirror="even", centre=1), 3), (Unseen(mirror="odd", centre=1), 6), (Unseen(degree=0), 3)]:
            world = World(["x"], {"f": fact})
            self.check(Code(world, rows, [5]))
            self.assertEqual(len(shared(Code(world, rows, [5]))), many)

    def test_drawn_codes(self):
        source = random.Random(91)
        less = 0
        for _ in range(120):
            world = random_world(source)
            code = codey.random_code(world, source, most=12)
            self.check(code)
            less += len(shared(code)) < len(code)
            drawn = oracle.Witness(world, source)
            self.assertEqual(codey.worths(shared(code), drawn), codey.worths(code, drawn))
        self.assertGreater(less, 40)

    def test_ways_back(self):
        source = random.Random(92)
        for _ in range(30):
            code = codey.random_code(random_world(source), source, most=8)
            if code.answer_slots():
                self.check(way_back(code))


class TestPacked(Case):
    def check(self, code):
        before = str(code)
        counts = alive_counts(code)
        self.assertEqual(counts, naive_counts(code), before)
        found = packed(code)
        self.assertIs(type(found), Code)
        self.assertEqual(found, naive_packed(code), before)
        self.assertEqual(codey.values_of(found), codey.values_of(code))
        self.assertEqual(found.width, max(counts, default=0))
        self.assertEqual(alive_counts(found), counts)
        self.assertEqual(packed(found), found)
        self.assertEqual(found.forms(), code.forms())
        self.assertEqual(str(code), before)
        return str(found), counts

    def test_codes(self):
        rows = [
            ([], [], "answer", []), ([(7, "in", "x")], [], "0 = in x; answer", [1]), ([(7, "in", "x")], [7, 7], "0 = in x; answer 0 0", [1]),
            ([(7, "in", "x"), (8, "in", "y")], [], "0 = in x; 0 = in y; answer", [1, 1]), ([(7, "in", "x"), (8, "in", "y")], [7], "0 = in x; 1 = in y; answer 0", [1, 2]),
            ([(7, "in", "x"), (8, "in", "y")], [8], "0 = in x; 0 = in y; answer 0", [1, 1]),
            ([(5, "in", "x"), (6, "mul", 5, 5), (7, "mul", 6, 6)], [7], "0 = in x; 0 = mul 0 0; 0 = mul 0 0; answer 0", [1, 1, 1]),
            ([(5, "in", "x"), (6, "mul", 5, 5), (7, "mul", 6, 5)], [7], "0 = in x; 1 = mul 0 0; 0 = mul 1 0; answer 0", [1, 2, 1]),
            ([(5, "in", "x"), (6, "in", "y"), (7, "sub", 5, 6), (8, "add", 5, 7)], [8], "0 = in x; 1 = in y; 1 = sub 0 1; 0 = add 0 1; answer 0", [1, 2, 2, 1]),
            ([(5, "in", "x"), (6, "in", "y"), (7, "sub", 5, 6), (8, "add", 6, 7)], [8, 5], "0 = in x; 1 = in y; 2 = sub 0 1; 1 = add 1 2; answer 1 0",
             [1, 2, 3, 2]),
            ([(0, "in", "x"), (1, "in", "y"), (1, "put", Ratio(1)), (2, "put", Ratio(2)), (3, "add", 0, 2)], [3], "0 = in x; 1 = in y; 1 = put 1; 1 = put 2; 0 = add 0 1; answer 0",
             [1, 2, 2, 2, 1]),
            ([(0, "in", "x"), (0, "in", "y"), (0, "put", Ratio(1))], [0], "0 = in x; 0 = in y; 0 = put 1; answer 0", [1, 1, 1]),
            ([(3, "in", "x"), (4, "put", Ratio(3)), (5, "put", Ratio(4)), (6, "two", "g", (0, 0), 4, 5), (7, "add", 3, 6)], [7, 6, 7],
             "0 = in x; 1 = put 3; 2 = put 4; 1 = two g 0,0 1 2; 0 = add 0 1; answer 0 1 0", [1, 2, 3, 2, 2]),
        ]
        for listing, answers, text, counts in rows:
            self.assertEqual(self.check(Code(WORLD, listing, answers)), (text, counts))
        code = Code(WORLD, BEGIN, [0, 1])
        self.assertEqual(packed(code=code), code)
        self.assertEqual(alive_counts(code=code), [1, 2])
        told = alive_counts(code)
        told.append(5)
        self.assertEqual(alive_counts(code), [1, 2])

    def test_drawn_codes(self):
        source = random.Random(93)
        for _ in range(300):
            world = random_world(source)
            code = codey.random_code(world, source, slots=source.choice([1, 3, 8]))
            self.check(code)
            drawn = oracle.Witness(world, source)
            self.assertEqual(codey.worths(packed(code), drawn), codey.worths(code, drawn))

    def test_ways_back_and_traced_programs(self):
        source = random.Random(94)
        for _ in range(40):
            world = random_world(source)
            _, program = random_program(world, source, depth=3)
            code = trace(program)
            if len(code) < 60:
                self.check(code)
                self.check(way_back(code))

    def test_fewest_slots(self):
        """No other way to give slots has fewer: behind some row, as many values are kept."""
        source = random.Random(95)
        for _ in range(50):
            code = codey.random_code(random_world(source), source)
            self.assertEqual(packed(code).width, max(alive_counts(code), default=0))
            self.assertLessEqual(packed(code).width, code.width)

    def test_long_codes(self):
        rows = [(slot, "in", "xy"[slot % 2]) for slot in range(200)] + [(200 + slot, "add", slot, 199 - slot) for slot in range(200)]
        code = Code(WORLD, rows, [399])
        self.assertEqual(packed(code).width, max(alive_counts(code)))
        self.assertEqual(packed(code).forms(), code.forms())


class TestBoth(Case):
    def test_in_either_order(self):
        source = random.Random(96)
        for _ in range(60):
            world = random_world(source)
            code = codey.random_code(world, source)
            one, other = packed(shared(code)), shared(packed(code))
            self.assertEqual(shared(one), other)
            self.assertEqual(other, shared(code))
            self.assertEqual(packed(other), one)
            drawn = oracle.Witness(world, source)
            witness = package_witness(world, drawn)
            for found in (one, other):
                self.assertEqual(found.forms(), code.forms())
                self.assertEqual(found.numbers(witness), code.numbers(witness))
            if code.answer_slots():
                self.assertEqual(way_back(one).forms(), way_back(code).forms())

    def test_filled_programs(self):
        program = Program(WORLD, "?1 * f(x) + f(x) * ?2").filled([2, -2])
        self.assertEqual(str(packed(shared(trace(program)))), "0 = put 0; answer 0")


if __name__ == "__main__":
    unittest.main()
