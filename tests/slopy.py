"""Random programs full of slopes within slopes, at which rules for naming tags differ."""

from oracle import Expression, Maker


class SlopeMaker(Maker):
    """Makes expressions in which parameters of functions around stand within slopes."""

    def make(self, kind, scope, depth):
        known = [name for name, found in scope.items() if found == kind]
        if known and (depth <= 0 or self.random.random() < 0.2):
            return self.known(self.random.choice(known[-3:]))
        if kind == "":
            return self.number(scope, depth)
        if kind == "x" and depth <= 0:
            return self.unseen()
        if kind[0] == "x" and depth > 1 and self.random.random() < 0.45:
            return self.sloped(self.function(kind, scope, depth))
        if depth > 1 and len(kind) < 3 and self.random.random() < 0.3:
            return self.applied(kind, scope, depth - 1)
        return self.function(kind, scope, depth)

    def number(self, scope, depth):
        if depth <= 0:
            return self.leaf_of(scope)
        way = self.random.choice(["product", "product", "sum", "slope", "slope", "slope", "call", "pair"])
        if way == "slope":
            return self.slope_at(scope, depth)
        if way == "call":
            return self.applied("", scope, depth)
        one = self.make("", scope, depth - 1)
        other = self.make("", scope, depth - 2)
        if way == "pair":
            return self.pair(one, other)
        return self.joined(way, self.wrapped(one), self.wrapped(other))

    def leaf_of(self, scope):
        numbers = [name for name, kind in scope.items() if kind == ""]
        if numbers and self.random.random() < 0.8:
            return self.known(self.random.choice(numbers))
        return self.leaf()

    def slope_at(self, scope, depth):
        """The slope of a function of one, two or three numbers, or of a number and a function, at places."""
        kind = self.random.choice(["x", "x", "xx", "xx", "xxx", "x@"])
        total = self.sloped(self.function(kind, scope, depth))
        for sign in kind:
            total = self.called(total, self.make("" if sign == "x" else "x", scope, depth - 2))
        return total

    def called(self, head, argument):
        def run(witness, values):
            return head.run(witness, values)(argument.run(witness, values))
        return Expression(f"{head.text}({argument.text})", run)


def var(name):
    """What a name stands for."""
    return Expression(name, lambda witness, values: values[name])


def lam(name, body, sign=""):
    """A function."""
    def run(witness, values):
        return lambda given: body.run(witness, {**values, name: given})
    return Expression(f"(fn {sign}{name}: {body.text})", run)


def app(head, argument):
    """What a function answers."""
    def run(witness, values):
        return head.run(witness, values)(argument.run(witness, values))
    return Expression(f"{head.text}({argument.text})", run)


def plus(one, other):
    """A sum."""
    return Expression(f"({one.text} + {other.text})", lambda w, v: one.run(w, v) + other.run(w, v))


def times(one, other):
    """A product."""
    return Expression(f"({one.text} * {other.text})", lambda w, v: one.run(w, v) * other.run(w, v))


class ShiftMaker(SlopeMaker):
    """Makes programs with lets of functions that take slopes: of what they get, or along a shift."""

    def lets(self):
        """The lets, each a tuple of a name, its expression and its kind."""
        shift = lam("u", lam("p", lam("t", app(var("p"), plus(var("t"), var("u")))), "@"))
        stretch = lam("u", lam("p", lam("t", times(var("u"), app(var("p"), times(var("t"), var("u"))))), "@"))
        return [
            ("da", lam("p", self.sloped(var("p")), "@"), "@x"),
            ("db", lam("p", lam("t", app(self.sloped(var("p")), var("t"))), "@"), "@x"),
            ("sa", app(self.sloped(shift), self.leaf()), "@x"),
            ("sb", app(self.sloped(stretch), self.leaf()), "@x"),
            ("sc", self.sloped(shift), "x@x"),
        ]

    def number(self, scope, depth):
        heads = [name for name, kind in scope.items() if kind in ("@x", "x@x")]
        if depth > 0 and heads and self.random.random() < 0.6:
            function = self.make("x", scope, depth - 1)
            for _ in range(self.random.choice([1, 1, 2])):
                function = self.shifted(scope, self.random.choice(heads), function)
            return app(function, self.make("", scope, depth - 2))
        return SlopeMaker.number(self, scope, depth)

    def shifted(self, scope, name, function):
        head = var(name)
        if scope[name] == "x@x":
            head = app(head, self.leaf_of(scope))
        return app(head, function)
