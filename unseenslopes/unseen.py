"""Names, the known facts of unseen functions, and worlds."""

from unseenslopes.errors import InvalidFact, InvalidName, InvalidText, NameTaken, TooLarge, UnknownName
from unseenslopes.ratios import Ratio, is_integer, is_number, ratio_of

LETTERS = "abcdefghijklmnopqrstuvwxyz"
MOST_LETTERS = 6
KEPT_WORDS = ("fn", "let", "slope")
MIRRORS = ("even", "odd")
SWAPS = ("same", "minus")
MOST_DEGREE = 3


def is_name(value):
    """Whether any value is a name."""
    if not isinstance(value, str) or not 1 <= len(value) <= MOST_LETTERS:
        return False
    return all([sign in LETTERS for sign in value]) and value not in KEPT_WORDS


def is_choice(value, words):
    """Whether any value is one of some words."""
    return isinstance(value, str) and value in words


def is_whole_within(value, low, high):
    """Whether any value is an integer within two bounds."""
    return is_integer(value) and low <= value <= high


def is_mirror(arity, mirror):
    """Whether a function of the arity can have this mirror."""
    return mirror is None or arity == 1 and is_choice(mirror, MIRRORS)


def is_centre(mirror, centre):
    """Whether a function with the mirror can have this centre."""
    return is_number(centre) and (mirror is not None or centre == 0)


def is_degree(arity, degree):
    """Whether a function of the arity can have this degree."""
    return degree is None or arity == 1 and is_whole_within(degree, 0, MOST_DEGREE)


def is_swap(arity, swap):
    """Whether a function of the arity can have this swap."""
    return swap is None or arity == 2 and is_choice(swap, SWAPS)


def check_facts(arity, mirror, centre, degree, swap):
    """Raises the first fault of the values that are to be facts."""
    if not is_whole_within(arity, 1, 2):
        raise InvalidFact("arity")
    if not is_mirror(arity, mirror):
        raise InvalidFact("mirror")
    if not is_centre(mirror, centre):
        raise InvalidFact("centre")
    if not is_degree(arity, degree):
        raise InvalidFact("degree")
    if not is_swap(arity, swap):
        raise InvalidFact("swap")


def facts_text(arity, mirror, centre, degree, swap):
    """The text of facts."""
    words = [str(arity)]
    if mirror is not None:
        words.extend([mirror, str(centre)])
    if degree is not None:
        words.extend(["degree", str(degree)])
    if swap is not None:
        words.append(swap)
    return " ".join(words)


class Unseen:
    """The known facts of a function that nobody has seen; they do not change."""

    def __init__(self, arity=1, *, mirror=None, centre=0, degree=None, swap=None):
        check_facts(arity, mirror, centre, degree, swap)
        self.arity = arity
        self.mirror = mirror
        self.centre = ratio_of(centre)
        self.degree = degree
        self.swap = swap
        self.text = facts_text(arity, mirror, self.centre, degree, swap)

    @staticmethod
    def read(text):
        """The facts with a text."""
        if not isinstance(text, str):
            raise InvalidText(0)
        words = text.split(" ")
        if words[0] == "2":
            return read_two(words[1:])
        if words[0] == "1":
            return read_one(words[1:])
        raise InvalidText(0)

    @property
    def is_free(self):
        """Whether nothing but the arity is known."""
        return self.mirror is None and self.degree is None and self.swap is None

    def __eq__(self, other):
        return isinstance(other, Unseen) and self.text == other.text

    def __str__(self):
        return f"{self.text}"

    def __repr__(self):
        return f"Unseen({self.text})"


def read_two(words):
    """The facts of a function of two arguments, from the words behind the arity."""
    if not words:
        return Unseen(2)
    if len(words) != 1 or words[0] not in SWAPS:
        raise InvalidText(0)
    return Unseen(2, swap=words[0])


def read_one(words):
    """The facts of a function of one argument, from the words behind the arity."""
    if len(words) not in (0, 2, 4):
        raise InvalidText(0)
    if words and words[0] in MIRRORS:
        return Unseen(1, mirror=words[0], centre=Ratio.read(words[1]), degree=read_degree(words[2:]))
    return Unseen(1, degree=read_degree(words))


def read_degree(words):
    """The degree that is told by the last words of the facts; None for no words."""
    if not words:
        return None
    if len(words) != 2 or words[0] != "degree" or words[1] not in ("0", "1", "2", "3"):
        raise InvalidText(0)
    return int(words[1])


def check_names(names):
    """Raises the first fault of the values that are to be the names of a world."""
    for name in names:
        if not is_name(name):
            raise InvalidName(name)
    seen = set()
    for name in names:
        if name in seen:
            raise NameTaken(name)
        seen.add(name)


def world_text(names, facts):
    """The text of a world, from its inputs and a dict of its functions in ascending order."""
    functions = [f"{name}: {facts[name]}" for name in facts]
    return ", ".join(names) + "; " + ", ".join(functions)


class World:
    """The inputs and the unseen functions that programs may name; a world does not change."""

    MOST = 4

    def __init__(self, inputs, functions):
        check_names([*inputs, *functions])
        if len(inputs) > World.MOST:
            raise TooLarge("inputs", World.MOST)
        if len(functions) > World.MOST:
            raise TooLarge("functions", World.MOST)
        self._inputs = list(inputs)
        self._facts = {name: functions[name] for name in sorted(functions)}
        self._names = [*inputs, *functions]
        self.text = world_text(self._inputs, self._facts)

    def inputs(self):
        """The list of the inputs, in the order in which they were passed."""
        return list(self._inputs)

    def functions(self):
        """The ascending list of the unseen functions."""
        return list(self._facts)

    def fact(self, name):
        """The facts of an unseen function."""
        if not isinstance(name, str) or name not in self._facts:
            raise UnknownName(name)
        return self._facts[name]

    def with_fact(self, name, fact):
        """The world in which other facts hold for one function."""
        if self.fact(name).arity != fact.arity:
            raise InvalidFact("arity")
        return World(self._inputs, {**self._facts, name: fact})

    def __contains__(self, name):
        return isinstance(name, str) and name in self._names

    def __len__(self):
        return len(self._names)

    def __eq__(self, other):
        return isinstance(other, World) and self.text == other.text

    def __str__(self):
        return f"{self.text}"

    def __repr__(self):
        return f"World({self.text})"
