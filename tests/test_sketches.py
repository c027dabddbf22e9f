"""Polynomials that are drawn place by place: what is loose can be chosen, what was chosen stays."""

import random
import unittest

from helpers import Case
from unseenslopes.curves import Curve, Sheet
from unseenslopes.picks import Picks
from unseenslopes.ratios import Ratio
from unseenslopes.sheets import SheetSketch
from unseenslopes.sketches import CurveSketch
from unseenslopes.unseen import Unseen, World
from unseenslopes.witnesses import Witness

HALF = Ratio(1, 2)


class TestPicks(Case):
    def test_numbers(self):
        for spread in (1, 2, 7, 1000):
            picks = Picks(3, spread)
            found = [picks.step() for _ in range(400)]
            self.assertTrue(all(1 <= abs(number) <= spread for number in found))
            self.assertGreater(len(set(found)), min(spread, 200))
            again = Picks(3, spread)
            self.assertEqual([again.step() for _ in range(400)], found)
        self.assertNotEqual([Picks(attempt, 1000).step() for attempt in range(5)], [Picks(0, 1000).step()] * 5)


class SketchCase(Case):
    def draw(self, sketch, source, groups):
        """Chooses a value for all that is loose at the places; returns what the values should be."""
        told = []
        for places, rows in groups:
            for orders in rows:
                if sketch.is_loose(orders, places):
                    wanted = Ratio(source.randint(-9, 9), source.randint(1, 3))
                    sketch.bend(orders, places, wanted - sketch.worth_at(orders, places))
                    self.assertEqual(sketch.worth_at(orders, places), wanted)
                    told.append((orders, places, wanted))
                else:
                    told.append((orders, places, sketch.worth_at(orders, places)))
            sketch.keep(rows[-1], places)
        for orders, places, wanted in told:
            self.assertEqual(sketch.worth_at(orders, places), wanted, (orders, places))
        return told


class TestCurveSketch(SketchCase):
    def test_all_values_at_places_that_differ_are_loose(self):
        source = random.Random(71)
        for _ in range(120):
            mirror = source.choice([None, "even", "odd"])
            fact = Unseen(mirror=mirror, centre=source.choice([0, 1, HALF]) if mirror else 0)
            lift = source.choice([0, 1])
            sketch = CurveSketch(fact, lift)
            degree = source.choice([None, 0, 1, 4])
            if degree is not None:
                sketch.begin(degree, Picks(1, 5))
            places = source.sample([0, 1, -2, 3, HALF, Ratio(-7, 3), 5], source.randint(1, 5))
            groups = []
            for place in places:
                orders = sorted(source.sample(range(-lift, 5), source.randint(1, 3)))
                groups.append(((Ratio(1) * place,), [(order,) for order in orders]))
            for (place,), rows in groups:
                for orders in rows:
                    self.assertEqual(sketch.is_loose(orders, (place,)), self.is_loose(fact, lift, orders[0], place))
            told = self.draw(sketch, source, groups)
            self.check_shape(fact, sketch, told)

    def is_loose(self, fact, lift, order, place):
        if place == 0 and order == -1:
            return False
        if fact.mirror is None or place != 0:
            return True
        return (order % 2 == 1) == (fact.mirror == "odd")

    def check_shape(self, fact, sketch, told):
        """The polynomial keeps the facts and has the values; places are told less the centre."""
        shape = sketch.shape()
        self.assertIsInstance(shape, Curve)
        witness = Witness(World([], {"f": fact}), inputs={}, functions={"f": shape})
        for orders, places, wanted in told:
            self.assertEqual(witness.value_of("f", orders, [places[0] + fact.centre]), wanted)

    def test_mirrored_places_are_one(self):
        for mirror, sign in [("even", 1), ("odd", -1)]:
            sketch = CurveSketch(Unseen(mirror=mirror, centre=3), 0)
            sketch.bend((0,), (Ratio(2),), Ratio(7))
            sketch.keep((0,), (Ratio(2),))
            self.assertFalse(sketch.is_loose((0,), (Ratio(-2),)))
            self.assertTrue(sketch.is_loose((1,), (Ratio(-2),)))
            self.assertEqual(sketch.worth_at((0,), (Ratio(-2),)), 7 * sign)
            sketch.bend((1,), (Ratio(-2),), Ratio(5) - sketch.worth_at((1,), (Ratio(-2),)))
            self.assertEqual([sketch.worth_at((0,), (Ratio(2),)), sketch.worth_at((1,), (Ratio(-2),))], [7, 5])

    def test_values_that_are_kept(self):
        sketch = CurveSketch(Unseen(), 0)
        sketch.keep((2,), (Ratio(1),))
        self.assertEqual([sketch.is_loose((order,), (Ratio(1),)) for order in range(5)], [False, False, False, True, True])
        self.assertEqual([sketch.is_loose((order,), (Ratio(-1),)) for order in range(2)], [True, True])
        sketch.keep((0,), (Ratio(1),))
        self.assertFalse(sketch.is_loose((2,), (Ratio(1),)))
        sketch.bend((3,), (Ratio(1),), Ratio(6))
        self.assertEqual(sketch.shape(), Curve([-1, 3, -3, 1]))

    def test_begin(self):
        picks = Picks(0, 9)
        found = [Ratio(picks.step()) for _ in range(4)]
        sketch = CurveSketch(Unseen(), 0)
        sketch.begin(3, Picks(0, 9))
        self.assertEqual(sketch.shape().worths(), found)
        sketch = CurveSketch(Unseen(mirror="odd"), 1)
        sketch.begin(3, Picks(0, 9))
        self.assertEqual(sketch.shape().worths(), [0, found[0], 0, found[1]])
        sketch = CurveSketch(Unseen(mirror="even", centre=2), 1)
        sketch.begin(2, Picks(0, 9))
        self.assertEqual(sketch.shape()(2), found[0])
        self.assertEqual(sketch.worth_at((-1,), (Ratio(0),)), 0)


class TestSheetSketch(SketchCase):
    def test_all_values_at_places_that_differ_are_loose(self):
        source = random.Random(72)
        for _ in range(100):
            fact = Unseen(2, swap=source.choice([None, "same", "minus"]))
            sketch = SheetSketch(fact)
            if source.random() < 0.5:
                sketch.begin(source.choice([0, 1, 3]), Picks(2, 4))
            pairs = [(one, other) for one in (0, 1, HALF) for other in (0, 1, -2)]
            groups = []
            for one, other in source.sample(pairs, source.randint(1, 4)):
                places = (Ratio(1) * one, Ratio(1) * other)
                rows = source.sample([(i, j) for i in range(3) for j in range(3)], source.randint(1, 4))
                groups.append((places, sorted(rows, key=lambda row: (sum(row), row[1]))))
                if fact.swap is None:
                    self.assertTrue(all(sketch.is_loose(orders, places) for orders in rows))
            told = self.draw(sketch, source, groups)
            shape = sketch.shape()
            self.assertIsInstance(shape, Sheet)
            witness = Witness(World([], {"g": fact}), inputs={}, functions={"g": shape})
            for orders, places, wanted in told:
                self.assertEqual(witness.value_of("g", orders, places), wanted)

    def test_what_follows_from_the_exchanged_pair(self):
        one, other = Ratio(1), Ratio(4)
        for swap, sign in [("same", 1), ("minus", -1)]:
            sketch = SheetSketch(Unseen(2, swap=swap))
            rows = [(0, 0), (1, 0), (0, 1), (1, 1), (2, 1)]
            self.assertTrue(all(sketch.is_loose(orders, (one, other)) for orders in rows))
            for value, orders in enumerate(rows):
                sketch.bend(orders, (one, other), value + 1 - sketch.worth_at(orders, (one, other)))
            sketch.keep((2, 1), (one, other))
            for value, (i, j) in enumerate(rows):
                self.assertEqual(sketch.worth_at((i, j), (one, other)), value + 1)
                self.assertEqual(sketch.worth_at((j, i), (other, one)), sign * (value + 1))
                self.assertFalse(sketch.is_loose((j, i), (other, one)))
                self.assertFalse(sketch.is_loose((i, j), (one, other)))
            self.assertTrue(sketch.is_loose((2, 2), (one, other)))
            sketch.keep((4, 4), (other, one))
            self.assertFalse(sketch.is_loose((2, 2), (one, other)))

    def test_level_places(self):
        places = (Ratio(3), Ratio(3))
        rows = [(0, 0), (1, 0), (0, 1), (2, 0), (1, 1), (0, 2), (2, 1)]
        loose = {None: rows, "same": [(0, 0), (1, 0), (2, 0), (1, 1), (2, 1)], "minus": [(1, 0), (2, 0), (2, 1)]}
        for swap, found in loose.items():
            sketch = SheetSketch(Unseen(2, swap=swap))
            self.assertEqual([orders for orders in rows if sketch.is_loose(orders, places)], found)
            for value, orders in enumerate(found):
                sketch.bend(orders, places, value + 2 - sketch.worth_at(orders, places))
            self.assertEqual([sketch.worth_at(orders, places) for orders in found], [value + 2 for value in range(len(found))])

    def test_begin(self):
        picks = Picks(0, 9)
        found = [picks.step() for _ in range(3)]
        sketch = SheetSketch(Unseen(2))
        sketch.begin(1, Picks(0, 9))
        self.assertEqual(sketch.shape(), Sheet([(0, 0, found[0]), (0, 1, found[1]), (1, 0, found[2])]))
        sketch = SheetSketch(Unseen(2, swap="minus"))
        sketch.begin(1, Picks(0, 9))
        self.assertEqual(sketch.shape(), Sheet([(0, 1, found[1] - found[2]), (1, 0, found[2] - found[1])]))


if __name__ == "__main__":
    unittest.main()
