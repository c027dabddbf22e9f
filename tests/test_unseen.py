"""Names, the facts of unseen functions, and worlds ([4])."""

import itertools
import unittest

from helpers import ANY_VALUES, Case
from unseenslopes.errors import InvalidFact, InvalidName, InvalidText, NameTaken, TooLarge, UnknownName
from unseenslopes.ratios import Ratio
from unseenslopes.unseen import Unseen, World, is_name

FACTS = [
    ((), {}, "1"),
    ((1,), {}, "1"),
    ((2,), {}, "2"),
    ((1,), {"mirror": "even"}, "1 even 0"),
    ((1,), {"mirror": "odd", "centre": Ratio(1, 2)}, "1 odd 1/2"),
    ((1,), {"mirror": "odd", "centre": Ratio(2, 4), "degree": 3}, "1 odd 1/2 degree 3"),
    ((1,), {"mirror": "even", "centre": -3, "degree": 0}, "1 even -3 degree 0"),
    ((), {"degree": 2}, "1 degree 2"),
    ((), {"centre": Ratio(0), "degree": 1}, "1 degree 1"),
    ((2,), {"swap": "same"}, "2 same"),
    ((2,), {"swap": "minus", "centre": 0}, "2 minus"),
]


class TestNames(unittest.TestCase):
    def test_names(self):
        for value in ["a", "z", "xy", "abcdef", "zzzzzz", "f", "fns", "fnn", "lets", "le", "slop", "slopes", "integr"]:
            self.assertIs(is_name(value), True)
        self.assertIs(is_name(value="x"), True)

    def test_near_names(self):
        wrong = [
            "", "fn", "let", "slope", "abcdefg", "integral", "X", "aB", "x1", "1", "x ", " x", "x y", "x_y", "_", "x\n",
            "a-b", "?1", "\u00e9", "\u0430", "a" * 6000,
        ]
        for value in wrong:
            self.assertIs(is_name(value), False, value)

    def test_values_of_any_kind(self):
        for value in ANY_VALUES:
            self.assertIs(is_name(value), value == "x" and value is not True, value)
        for value in [["x"], ("x",), b"x", Ratio(1), {"x": 1}]:
            self.assertIs(is_name(value), False)


class TestUnseen(Case):
    def test_attributes_and_texts(self):
        for given, more, text in FACTS:
            made = Unseen(*given, **more)
            self.assertEqual(made.text, text)
            self.assertEqual(str(made), text)
            self.assertEqual(repr(made), f"Unseen({text})")
            self.assertEqual(made.arity, given[0] if given else 1)
            self.assertEqual(made.mirror, more.get("mirror"))
            self.assertIs(type(made.centre), Ratio)
            self.assertEqual(made.centre, more.get("centre", 0))
            self.assertEqual(made.degree, more.get("degree"))
            self.assertEqual(made.swap, more.get("swap"))
            self.assertIs(made.is_free, text in ("1", "2"))

    def test_arity_by_name(self):
        self.assertEqual(Unseen(arity=2, swap="same").text, "2 same")
        with self.assertRaises(TypeError):
            Unseen(1, "even")

    def test_equality(self):
        for one, other in itertools.product(FACTS, FACTS):
            made, against = Unseen(*one[0], **one[1]), Unseen(*other[0], **other[1])
            self.assertIs(made == against, one[2] == other[2])
            self.assertIs(made != against, one[2] != other[2])
        for value in [*ANY_VALUES, "1", 1]:
            self.assertFalse(Unseen() == value)

    def test_wrong_arity(self):
        for value in [None, True, False, 0, 3, -1, "1", [1], (2,), Ratio(1), Ratio(2)]:
            self.assert_fails(InvalidFact("arity"), Unseen, value)
            self.assert_fails(InvalidFact("arity"), Unseen, arity=value)

    def test_wrong_mirror(self):
        for value in [True, False, 0, 1, "", "Even", "even ", "same", "minus", ["even"], ("odd",)]:
            self.assert_fails(InvalidFact("mirror"), Unseen, mirror=value)
            self.assert_fails(InvalidFact("mirror"), Unseen, 2, mirror=value)
        for value in ["even", "odd"]:
            self.assert_fails(InvalidFact("mirror"), Unseen, 2, mirror=value)

    def test_wrong_centre(self):
        for value in [None, True, False, "0", "", [0], (0,)]:
            self.assert_fails(InvalidFact("centre"), Unseen, centre=value)
            self.assert_fails(InvalidFact("centre"), Unseen, mirror="even", centre=value)
            self.assert_fails(InvalidFact("centre"), Unseen, 2, centre=value)
        for value in [1, -1, Ratio(1, 2), 10 ** 30]:
            self.assert_fails(InvalidFact("centre"), Unseen, centre=value)
            self.assert_fails(InvalidFact("centre"), Unseen, centre=value, degree=2)
            self.assert_fails(InvalidFact("centre"), Unseen, 2, centre=value)

    def test_wrong_degree(self):
        for value in [True, False, -1, 4, "1", "", [1], (2,), Ratio(1)]:
            self.assert_fails(InvalidFact("degree"), Unseen, degree=value)
            self.assert_fails(InvalidFact("degree"), Unseen, mirror="odd", centre=2, degree=value)
        for value in [0, 1, 3, 4, True, "x"]:
            self.assert_fails(InvalidFact("degree"), Unseen, 2, degree=value)

    def test_wrong_swap(self):
        for value in [True, False, 0, 1, "", "Same", "even", ["same"], ("minus",)]:
            self.assert_fails(InvalidFact("swap"), Unseen, swap=value)
            self.assert_fails(InvalidFact("swap"), Unseen, 2, swap=value)
        for value in ["same", "minus"]:
            self.assert_fails(InvalidFact("swap"), Unseen, 1, swap=value)

    def test_the_first_of_several_faults(self):
        wrong = [("arity", 3), ("mirror", "x"), ("centre", "x"), ("degree", "x"), ("swap", "x")]
        for many in range(1, 6):
            for faults in itertools.combinations(wrong, many):
                self.assert_fails(InvalidFact(faults[0][0]), Unseen, **dict(faults))
        self.assert_fails(InvalidFact("mirror"), Unseen, 2, mirror="even", centre=1, degree=1)
        self.assert_fails(InvalidFact("centre"), Unseen, 2, centre=1, degree=1)
        self.assert_fails(InvalidFact("degree"), Unseen, 1, degree=4, swap="same")


class TestReadingFacts(Case):
    def test_texts_are_read_back(self):
        for given, more, text in FACTS:
            made = Unseen.read(text)
            self.assertEqual(made, Unseen(*given, **more))
            self.assertEqual(made.text, text)
            self.assertEqual(made.centre, more.get("centre", 0))

    def test_centres_not_in_lowest_terms(self):
        self.assertEqual(Unseen.read("1 even 2/4").text, "1 even 1/2")
        self.assertEqual(Unseen.read("1 odd -0/3 degree 2").text, "1 odd 0 degree 2")
        self.assertEqual(Unseen.read(text="1 odd -10/5").text, "1 odd -2")

    def test_every_other_value(self):
        wrong = [
            "", " ", "0", "3", "11", "1 ", " 1", "2 ", "1  even 0", "1 even", "1 even ", "1 even x", "1 even 0 ", "1 even 01",
            "1 even 1/0", "1 even 0 degree", "1 even 0 degree 4", "1 even 0 degree 02", "1 even 0 degree -1",
            "1 degree 1 even 0", "1 degree", "1 degree 4", "1 degree 1/1", "1 degree 2 x", "1 even 0 degree 2 x", "1 same",
            "1 minus", "1 even 0 same", "2 even 0", "2 degree 1", "2 same ", "2 same minus", "2 Same", "2 x", "1 even 0 odd 0",
            "1\neven 0", "1 even 0 even 0", "1 even " + "1" * 31, "1 Even 0", "x", "one", "1 degree 1 degree 1",
        ]
        for text in wrong:
            self.assert_fails(InvalidText(0), Unseen.read, text)
        for value in ANY_VALUES:
            self.assert_fails(InvalidText(0), Unseen.read, value)
        for value in [Unseen(), ["1"], 2, b"1"]:
            self.assert_fails(InvalidText(0), Unseen.read, value)


class TestWorld(Case):
    def setUp(self):
        self.facts = {"g": Unseen(2), "f": Unseen(mirror="even")}
        self.world = World(["x", "h"], self.facts)

    def test_texts(self):
        rows = [
            (self.world, "x, h; f: 1 even 0, g: 2"),
            (World([], {}), "; "),
            (World(["x"], {}), "x; "),
            (World((), {"f": Unseen()}), "; f: 1"),
            (World(inputs=("b", "a"), functions={}), "b, a; "),
        ]
        for world, text in rows:
            self.assertEqual(world.text, text)
            self.assertEqual(str(world), text)
            self.assertEqual(repr(world), f"World({text})")

    def test_inputs_and_functions(self):
        self.assertEqual(self.world.inputs(), ["x", "h"])
        self.assertEqual(self.world.functions(), ["f", "g"])
        self.assertEqual(World([], {}).inputs(), [])
        self.assertEqual(World([], {}).functions(), [])
        self.assertEqual(len(self.world), 4)
        self.assertEqual(len(World([], {})), 0)
        self.assertEqual(World.MOST, 4)
        self.assertEqual(self.world.MOST, 4)

    def test_fact(self):
        self.assertEqual(self.world.fact("f"), Unseen(mirror="even"))
        self.assertEqual(self.world.fact(name="g"), Unseen(2))
        for value in [*ANY_VALUES, "x", "h", "k", "fn", Unseen(), ["f"]]:
            self.assert_fails(UnknownName(value), self.world.fact, value)

    def test_contains(self):
        for name in ["x", "h", "f", "g"]:
            self.assertIs(name in self.world, True)
        for value in [*[value for value in ANY_VALUES if value != "x"], "k", "fn", ["x"], ("f",)]:
            self.assertIs(value in self.world, False, value)

    def test_equality(self):
        self.assertTrue(self.world == World(("x", "h"), {"f": Unseen(mirror="even"), "g": Unseen(2)}))
        self.assertFalse(self.world != World(("x", "h"), {"f": Unseen(mirror="even"), "g": Unseen(2)}))
        self.assertFalse(self.world == World(["h", "x"], self.facts))
        self.assertFalse(self.world == World(["x"], self.facts))
        self.assertFalse(self.world == World(["x", "h"], {**self.facts, "f": Unseen()}))
        for value in [*ANY_VALUES, self.world.text]:
            self.assertFalse(self.world == value)

    def test_with_fact(self):
        other = self.world.with_fact("f", Unseen(degree=2))
        self.assertEqual(other.text, "x, h; f: 1 degree 2, g: 2")
        self.assertEqual(self.world.text, "x, h; f: 1 even 0, g: 2")
        self.assertEqual(self.world.with_fact(fact=Unseen(2, swap="same"), name="g").text, "x, h; f: 1 even 0, g: 2 same")

    def test_with_fact_errors(self):
        for value in [*ANY_VALUES, "x", "k"]:
            self.assert_fails(UnknownName(value), self.world.with_fact, value, Unseen())
            self.assert_fails(UnknownName(value), self.world.with_fact, value, Unseen(2))
        self.assert_fails(InvalidFact("arity"), self.world.with_fact, "f", Unseen(2))
        self.assert_fails(InvalidFact("arity"), self.world.with_fact, "g", Unseen())
        self.assertEqual(self.world.text, "x, h; f: 1 even 0, g: 2")

    def test_what_is_passed_and_told_can_be_changed(self):
        names = ["x", "h"]
        facts = {"f": Unseen()}
        world = World(names, facts)
        names.append("y")
        facts["g"] = Unseen(2)
        del facts["f"]
        world.inputs().append("z")
        world.functions().append("z")
        self.assertEqual(world.inputs(), ["x", "h"])
        self.assertEqual(world.functions(), ["f"])
        self.assertEqual(world.text, "x, h; f: 1")
        self.assertEqual(len(world), 3)
        self.assertEqual(world.fact("f"), Unseen())
        self.assertFalse("y" in world)

    def test_invalid_names(self):
        for value in [None, True, 0, "", "X", "fn", "let", "slope", "integral", "x1", ["x"], ("x",)]:
            self.assert_fails(InvalidName(value), World, ["x", value], {"f": Unseen()})
            self.assert_fails(InvalidName(value), World, [value, "B"], {"C": Unseen()})
        for value in [None, True, 0, "", "X", "fn", "integral", ("x",)]:
            self.assert_fails(InvalidName(value), World, ["x"], {"f": Unseen(), value: Unseen(), "Z": Unseen()})
        self.assert_fails(InvalidName("B"), World, ["x", "x", "B"], {"f": Unseen()})
        self.assert_fails(InvalidName("Z"), World, ["x"], {"x": Unseen(), "Z": Unseen(), "A": Unseen()})

    def test_taken_names(self):
        self.assert_fails(NameTaken("x"), World, ["x", "y", "x", "y"], {})
        self.assert_fails(NameTaken("y"), World, ["x", "y", "y", "x"], {})
        self.assert_fails(NameTaken("g"), World, ["f", "g"], {"g": Unseen(), "f": Unseen()})
        self.assert_fails(NameTaken("e"), World, ["a", "b", "c", "d", "e", "e"], {})

    def test_limits(self):
        five = ["a", "b", "c", "d", "e"]
        four_facts = {"p": Unseen(), "q": Unseen(), "r": Unseen(2), "s": Unseen()}
        self.assertEqual(len(World(five[:4], four_facts)), 8)
        self.assert_fails(TooLarge("inputs", 4), World, five, {})
        self.assert_fails(TooLarge("inputs", 4), World, five, {**four_facts, "t": Unseen()})
        self.assert_fails(TooLarge("functions", 4), World, five[:4], {**four_facts, "t": Unseen()})
        self.assert_fails(NameTaken("a"), World, five[:4], {**four_facts, "a": Unseen()})


if __name__ == "__main__":
    unittest.main()
