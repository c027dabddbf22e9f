"""An independent reckoning for the tests: random programs, and their answers at polynomials.

Numbers here are tagged: dicts from frozensets of tags to Fractions. Unseen functions are
polynomials, so that they can be applied to tagged numbers by sums and products alone.
"""

from fractions import Fraction
from itertools import count

PLAIN = frozenset()


class Tagged:
    """A number with parts for sets of tags; a tag times itself is 0."""

    def __init__(self, parts):
        self.parts = {tags: part for tags, part in parts.items() if part}

    def __add__(self, other):
        parts = dict(self.parts)
        for tags, part in other.parts.items():
            parts[tags] = parts.get(tags, 0) + part
        return Tagged(parts)

    def __mul__(self, other):
        parts = {}
        for one, left in self.parts.items():
            for two, right in other.parts.items():
                if not one & two:
                    parts[one | two] = parts.get(one | two, 0) + left * right
        return Tagged(parts)

    def __neg__(self):
        return self * plain(-1)

    def __sub__(self, other):
        return self + -other

    def stripped(self, tag):
        return Tagged({tags - {tag}: part for tags, part in self.parts.items() if tag in tags})

    @property
    def worth(self):
        assert set(self.parts) <= {PLAIN}
        return self.parts.get(PLAIN, Fraction(0))


def plain(number):
    return Tagged({PLAIN: Fraction(number)})


class Poly1:
    """A polynomial by its coefficients."""

    def __init__(self, worths):
        self.worths = [Fraction(worth) for worth in worths]

    def slope(self, times):
        worths = self.worths
        for _ in range(times):
            worths = [power * worth for power, worth in enumerate(worths)][1:]
        return Poly1(worths)

    def integral(self, begin):
        worths = [Fraction(0)] + [worth / (power + 1) for power, worth in enumerate(self.worths)]
        worths[0] = -Poly1(worths)(plain(begin)).worth
        return Poly1(worths)

    def __call__(self, place):
        total = plain(0)
        for worth in reversed(self.worths):
            total = total * place + plain(worth)
        return total


class Poly2:
    """A polynomial of two arguments by a dict of its coefficients."""

    def __init__(self, worths):
        self.worths = worths

    def slope(self, i, j):
        worths = {}
        for (p, q), worth in self.worths.items():
            for step in range(i):
                worth = worth * (p - step)
            for step in range(j):
                worth = worth * (q - step)
            if p >= i and q >= j:
                worths[p - i, q - j] = worth
        return Poly2(worths)

    def __call__(self, one, other):
        total = plain(0)
        for (p, q), worth in self.worths.items():
            product = plain(worth)
            for _ in range(p):
                product = product * one
            for _ in range(q):
                product = product * other
            total = total + product
        return total


class Witness:
    """Random numbers for inputs and blanks, and random polynomials that keep the facts."""

    def __init__(self, world, random):
        def number():
            return Fraction(random.randint(-7, 7), random.randint(1, 3))

        self.numbers = {name: number() for name in world.inputs()}
        self.moves = {}
        self.blanks = {index: number() for index in range(1, 7)}
        self.taker = Taker()
        self.shapes = {}
        self.coefficients = {}
        self.centres = {}
        for name in world.functions():
            fact = world.fact(name)
            if fact.arity == 2:
                self.shapes[name] = self.sheet(fact, number)
                continue
            centre = Fraction(fact.centre.top, fact.centre.bottom)
            top = 5 if fact.degree is None else fact.degree
            worths = [number() for _ in range(top + 1)]
            if fact.mirror is not None:
                worths = [0 if power % 2 != (fact.mirror == "odd") else w for power, w in enumerate(worths)]
            self.centres[name] = centre
            self.coefficients[name] = worths
            self.shapes[name] = self.moved(worths, centre)

    def input(self, name):
        """The number of an input, plus the tags by which its slopes are taken."""
        return plain(self.numbers[name]) + Tagged({frozenset([tag]): Fraction(1) for tag in self.moves.get(name, ())})

    @staticmethod
    def moved(worths, centre):
        total = [Fraction(0)]
        for worth in reversed(worths):
            raised = [Fraction(0)] + total
            lowered = [-centre * part for part in total] + [Fraction(0)]
            total = [one + other for one, other in zip(raised, lowered)]
            total[0] += worth
        return Poly1(total)

    @staticmethod
    def sheet(fact, number):
        worths = {(p, q): number() for p in range(4) for q in range(4)}
        sign = {"same": 1, "minus": -1, None: 0}[fact.swap]
        if sign:
            worths = {(p, q): worths[p, q] + sign * worths[q, p] for p, q in worths}
        return Poly2(worths)

    def one(self, name, order):
        if order == -1:
            return self.shapes[name].integral(self.centres[name])
        return self.shapes[name].slope(order)


class Expression:
    """The text of an expression, and how to evaluate it: a function from (witness, scope)."""

    def __init__(self, text, run):
        self.text = text
        self.run = run


class Taker:
    """Takes slopes by a rule, word by word as [11] says it."""

    def __init__(self, naming="new", renewed=True):
        self.naming = naming
        self.renewed = renewed
        self.depth = 0
        self.many = count()

    def tag(self, site):
        return {"one": "one", "site": f"site {site}", "depth": f"depth {self.depth}", "new": next(self.many)}[self.naming]

    def slope(self, function, place, site):
        tag = self.tag(site)
        self.depth += 1
        answer = function(place + Tagged({frozenset([tag]): Fraction(1)}))
        self.depth -= 1
        if self.renewed and not isinstance(answer, Tagged):
            return lambda given: self.slope(lambda moved: function(moved)(given), place, site)
        return self.stripping(answer, tag)

    def stripping(self, answer, tag):
        if isinstance(answer, Tagged):
            return answer.stripped(tag)
        return lambda given: self.stripping(answer(given), tag)


class Maker:
    """Makes random expressions of a kind: "" for numbers, and a sign for each parameter of functions."""

    def __init__(self, world, random):
        self.world = world
        self.random = random
        self.names = 0
        self.sites = 0

    def fresh(self):
        self.names += 1
        return "qwrtvk"[self.names % 6] + "abcdefghij"[self.names // 6 % 10] + "abcdefghij"[self.names // 60 % 10]

    def gap(self):
        return self.random.choice(["", "", "", " ", "  "])

    def wrapped(self, made):
        """The expression in parentheses, needless or not."""
        return Expression(f"({self.gap()}{made.text}{self.gap()})", made.run)

    def make(self, kind, scope, depth):
        choices = [name for name, known in scope.items() if known == kind]
        if choices and (depth <= 0 or self.random.random() < 0.3):
            return self.known(self.random.choice(choices))
        if kind == "":
            return self.number(scope, depth)
        if kind == "x" and self.random.random() < (0.9 if depth <= 0 else 0.4):
            return self.unseen()
        if depth > 0 and kind[0] == "x" and self.random.random() < 0.3:
            inner = self.make(kind, scope, depth - 1)
            return self.sloped(inner)
        if depth > 0 and self.random.random() < 0.25 and len(kind) < 3:
            return self.applied(kind, scope, depth)
        return self.function(kind, scope, depth)

    def known(self, name):
        return Expression(name, lambda witness, values: values[name])

    def ones(self):
        return [name for name in self.world.functions() if self.world.fact(name).arity == 1]

    def unseen(self):
        name = self.random.choice(self.ones())
        order = self.random.choice([None, None, 0, 1, 2])
        text = name if order is None else f"{name}{self.gap()}[{order}]"
        return Expression(text, lambda witness, values: witness.one(name, order or 0))

    def sloped(self, inner):
        self.sites += 1
        site = self.sites

        def run(witness, values):
            function = inner.run(witness, values)
            return lambda place: witness.taker.slope(function, place, site)
        return Expression(f"slope({inner.text})", run)

    def applied(self, kind, scope, depth):
        sign = self.random.choice("xx@")
        head = self.wrapped(self.make(sign + kind, scope, depth - 1))
        argument = self.make("" if sign == "x" else "x", scope, depth - 1)

        def run(witness, values):
            return head.run(witness, values)(argument.run(witness, values))
        return Expression(f"{head.text}{self.gap()}({argument.text})", run)

    def function(self, kind, scope, depth):
        name = self.fresh()
        if name in scope or name in self.world:
            return self.function(kind, scope, depth)
        body = self.make(kind[1:], {**scope, name: "" if kind[0] == "x" else "x"}, depth - 1)
        sign = "@" if kind[0] == "@" else ""

        def run(witness, values):
            return lambda given: body.run(witness, {**values, name: given})
        return self.wrapped(Expression(f"fn {sign}{name}:{self.gap()}{body.text}", run))

    def number(self, scope, depth):
        if depth <= 0:
            return self.leaf()
        way = self.random.choice(["sum", "product", "minus", "call", "call", "call", "pair", "integral", "leaf"])
        if way == "leaf":
            return self.leaf()
        if way == "call":
            return self.applied("", scope, depth)
        if way == "minus":
            part = self.wrapped(self.make("", scope, depth - 1))
            return self.wrapped(Expression(f"-{part.text}", lambda w, v: -part.run(w, v)))
        one = self.make("", scope, depth - 1)
        other = self.make("", scope, depth - 1)
        if way == "integral":
            return self.integral(one, other)
        if way == "pair":
            return self.pair(one, other)
        return self.joined(way, self.wrapped(one), self.wrapped(other))

    def joined(self, way, one, other):
        sign = "*" if way == "product" else self.random.choice("+-")

        def run(witness, values):
            left, right = one.run(witness, values), other.run(witness, values)
            return left * right if sign == "*" else left + right if sign == "+" else left - right
        return Expression(f"{one.text}{self.gap()}{sign}{self.gap()}{other.text}", run)

    def leaf(self):
        if self.random.random() < 0.4:
            top, bottom = self.random.randint(0, 6), self.random.randint(1, 4)
            text = self.random.choice([str(top), f"{top}/{bottom}"])
            return Expression(text, lambda witness, values: plain(Fraction(text)))
        name = self.random.choice(self.world.inputs())
        return Expression(name, lambda witness, values: witness.input(name))

    def integral(self, one, other):
        name = self.random.choice(self.ones())

        def run(witness, values):
            shape = witness.one(name, -1)
            return shape(other.run(witness, values)) - shape(one.run(witness, values))
        return Expression(f"integral({one.text},{self.gap()}{other.text}, {name})", run)

    def pair(self, one, other):
        names = [name for name in self.world.functions() if self.world.fact(name).arity == 2]
        name = self.random.choice(names)
        i, j = self.random.choice([(0, 0), (0, 0), (1, 0), (0, 1), (1, 1), (2, 1)])
        orders = self.random.choice(["", "[0,0]"]) if (i, j) == (0, 0) else f"[{i},{self.gap()}{j}]"

        def run(witness, values):
            return witness.shapes[name].slope(i, j)(one.run(witness, values), other.run(witness, values))
        return Expression(f"{name}{orders}({one.text},{other.text})", run)


class FormText:
    """Reads the text of a form and evaluates it at a witness."""

    def __init__(self, text, witness):
        self.text = text
        self.witness = witness
        self.at = 0

    def answer(self):
        total = self.form()
        assert self.at == len(self.text), (self.text, self.at)
        return total

    def ahead(self, piece):
        return self.text.startswith(piece, self.at)

    def take(self, piece):
        found = self.ahead(piece)
        if found:
            self.at += len(piece)
        return found

    def run_of(self, signs):
        begin = self.at
        while self.at < len(self.text) and self.text[self.at] in signs:
            self.at += 1
        return self.text[begin:self.at]

    def form(self):
        sign = -1 if self.take("-") else 1
        total = sign * self.product()
        while True:
            if self.take(" + "):
                total += self.product()
            elif self.take(" - "):
                total -= self.product()
            else:
                return total

    def product(self):
        total = self.power()
        while self.take("*"):
            total *= self.power()
        return total

    def power(self):
        worth = self.atom()
        return worth ** int(self.run_of("0123456789")) if self.take("^") else worth

    def atom(self):
        digits = self.run_of("0123456789/")
        if digits:
            return Fraction(digits)
        if self.take("?"):
            return self.witness.blanks[int(self.run_of("123456"))]
        name = self.run_of("abcdefghijklmnopqrstuvwxyz")
        if self.take("."):
            return Fraction(self.witness.coefficients[name][int(self.run_of("0123456789"))])
        if not self.ahead("[") and not self.ahead("("):
            return self.witness.numbers[name]
        orders = [0, 0]
        if self.take("["):
            orders = [int(order) for order in self.run_of("-0123456789,").split(",")]
            assert self.take("]") and any(orders)
        assert self.take("(")
        given = [self.form()]
        while self.take(", "):
            given.append(self.form())
        assert self.take(")")
        places = [plain(part) for part in given]
        if len(places) == 1:
            return self.witness.one(name, orders[0])(places[0]).worth
        return self.witness.shapes[name].slope(*orders)(*places).worth
