"""Random programs against an independent machine of tagged numbers at polynomials ([8] to [10])."""

import random
import unittest

from oracle import FormText, Maker, Witness
from unseenslopes.errors import Missing, SlopeError, TooLarge
from unseenslopes.meaning import meaning
from unseenslopes.programs import Program
from unseenslopes.ratios import Ratio
from unseenslopes.unseen import Unseen, World


def without_a_pair(text):
    """The texts that have one pair of parentheses less."""
    opened = []
    for at, sign in enumerate(text):
        if sign == "(":
            opened.append(at)
        elif sign == ")":
            begin = opened.pop()
            yield text[:begin] + text[begin + 1:at] + text[at + 1:]


class TestRandomPrograms(unittest.TestCase):
    def test_answers(self):
        source = random.Random(2026)
        many = 0
        for _ in range(700):
            many += self.check(source)
        self.assertGreater(many, 650)

    def check(self, source):
        """Whether a random program was read; its meaning has the right worth at random witnesses."""
        world = World(["x", "y"], {
            "f": self.fact(source), "h": self.fact(source), "g": Unseen(2, swap=source.choice([None, "same", "minus"])),
        })
        maker = Maker(world, source)
        scope, lets = {}, []
        for _ in range(source.choice([0, 0, 1, 2])):
            name = maker.fresh()
            kind = source.choice(["", "x", "x", "xx", "@", "x@", "@x"])
            lets.append((name, maker.make(kind, scope, source.randint(1, 3))))
            scope[name] = kind
        last = maker.make("", scope, source.randint(2, 4))
        text = "".join(f"let {name}={made.text};" for name, made in lets) + last.text
        try:
            program = Program(world, text)
        except TooLarge:
            return False
        form = meaning(program)
        again = Program(world, program.text)
        self.assertEqual(again.text, program.text)
        self.assertEqual(meaning(again), form)
        self.check_parentheses(world, program.text)
        for _ in range(2):
            witness = Witness(world, source)
            values = {}
            for name, made in lets:
                values[name] = made.run(witness, dict(values))
            self.assertEqual(last.run(witness, values).worth, FormText(form.text, witness).answer(), text)
        return True

    def check_parentheses(self, world, kept):
        """Without one of its pairs of parentheses, a kept text is read otherwise or not at all."""
        for text in without_a_pair(kept):
            try:
                other = Program(world, text)
            except (SlopeError, Missing):
                continue
            self.assertNotEqual(other.text, kept, text)

    def fact(self, source):
        mirror = source.choice([None, "even", "odd"])
        centre = source.choice([0, 0, 1, Ratio(-1, 2)]) if mirror else 0
        return Unseen(mirror=mirror, centre=centre, degree=source.choice([None, None, None, None, None, 0, 1, 2]))


if __name__ == "__main__":
    unittest.main()
