"""The evaluation of programs.

Tasks wait on a list instead of in nested calls of Python, since the functions of a program may
call one another thousands of times deep.
"""

from unseenslopes.calculus import input_form, integral_of, put_for, slope_of
from unseenslopes.forms import constant
from unseenslopes.kinds import A_MAP
from unseenslopes.normal import plain_form, unseen_form


class UnseenMap:
    """An unseen function of one argument with some slopes, as a value."""

    def __init__(self, name, order):
        self.kind = A_MAP
        self.name = name
        self.order = order


class Closure:
    """A function of a program with the values of the names around it, as a value."""

    def __init__(self, node, scope):
        self.kind = node.kind
        self.node = node
        self.scope = scope


class SlopeMap:
    """The slope of a function, which waits until all arguments are given, as a value."""

    def __init__(self, inner, given):
        self.kind = inner.kind[len(given):]
        self.inner = inner
        self.given = given


class Runner:
    """The tasks that wait, the last one being the next, and the values that they use and leave.

    A task is a tuple of its word, what it is about, and the values of the names known there.
    """

    def __init__(self, world):
        self.world = world
        self.tasks = []
        self.worths = []
        self.made = 0

    def later(self, tasks):
        """Puts tasks ahead of those that wait."""
        self.tasks.extend(tasks[::-1])

    def fresh_name(self):
        """The name of an input that nothing else uses: no name of a program has a digit."""
        self.made += 1
        return f"z{self.made}"


def run_tree(world, tree):
    """The value of the last expression of a program."""
    runner = Runner(world)
    scope = {}
    for name, node in tree.lets:
        scope = {**scope, name: run_node(runner, node, scope)}
    return run_node(runner, tree.last, scope)


def run_node(runner, node, scope):
    """The value of a node."""
    runner.later([start(node, scope)])
    while runner.tasks:
        word, what, known = runner.tasks.pop()
        act = ACTIONS[word]
        act(runner, what, known)
    return runner.worths.pop()


def start(node, scope):
    """The task that leaves the value of a node."""
    return (node.word, node, scope)


def finish(word, what=None):
    """A task that uses values that were left, and no names."""
    return (word, what, {})


def run_plus(runner, node, scope):
    """Leaves a sum."""
    tasks = [start(node.parts[0], scope)]
    for part, sign in zip(node.parts[1:], node.worth):
        tasks.extend([start(part, scope), finish(sign)])
    runner.later(tasks)


def run_times(runner, node, scope):
    """Leaves a product."""
    tasks = [start(node.parts[0], scope)]
    for part in node.parts[1:]:
        tasks.extend([start(part, scope), finish("*")])
    runner.later(tasks)


def run_minus(runner, node, scope):
    """Leaves the opposite of a value."""
    runner.later([start(node.parts[0], scope), finish("negate")])


def run_call(runner, node, scope):
    """Leaves what a function answers."""
    tasks = [start(node.parts[0], scope)]
    for part in node.parts[1:]:
        tasks.extend([start(part, scope), finish("apply")])
    runner.later(tasks)


def run_numeral(runner, node, _):
    """Leaves a number."""
    runner.worths.append(constant(node.worth))


def run_blank(runner, node, _):
    """Leaves a blank."""
    text = f"?{node.worth}"
    runner.worths.append(plain_form(text, text))


def run_name(runner, node, scope):
    """Leaves what a name stands for."""
    if node.name in scope:
        runner.worths.append(scope[node.name])
    elif node.name in runner.world.inputs():
        runner.worths.append(input_form(runner.world, node.name))
    else:
        runner.worths.append(UnseenMap(node.name, 0))


def run_slopes(runner, node, _):
    """Leaves an unseen function with slopes."""
    runner.worths.append(UnseenMap(node.name, node.worth[0]))


def run_pair(runner, node, scope):
    """Leaves the value of an unseen function at two arguments."""
    runner.later([start(node.parts[0], scope), start(node.parts[1], scope), finish("pair at", node)])


def run_function(runner, node, scope):
    """Leaves a function."""
    runner.worths.append(Closure(node, scope))


def run_slope(runner, node, scope):
    """Leaves the slope of a function."""
    runner.later([start(node.parts[0], scope), finish("slope of")])


def run_integral(runner, node, scope):
    """Leaves an integral."""
    runner.later([start(node.parts[0], scope), start(node.parts[1], scope), finish("integral to", node)])


def add_last(runner, what, _):
    """Adds the last two values."""
    other = runner.worths.pop()
    runner.worths.append(runner.worths.pop() + other)


def subtract_last(runner, what, _):
    """Takes the last value from the one ahead of it."""
    other = runner.worths.pop()
    runner.worths.append(runner.worths.pop() - other)


def multiply_last(runner, what, _):
    """Multiplies the last two values."""
    other = runner.worths.pop()
    runner.worths.append(runner.worths.pop() * other)


def negate_last(runner, what, _):
    """Leaves the opposite of the last value."""
    runner.worths.append(-runner.worths.pop())


def leave_value(runner, what, _):
    """Leaves a value that is known."""
    runner.worths.append(what)


def apply_unseen(runner, node, _):
    """Leaves the value of an unseen function at the last two values."""
    other = runner.worths.pop()
    one = runner.worths.pop()
    runner.worths.append(unseen_form(runner.world, node.name, node.worth, (one, other)))


def take_integral(runner, node, _):
    """Leaves the integral between the last two values."""
    end = runner.worths.pop()
    begin = runner.worths.pop()
    runner.worths.append(integral_of(runner.world, begin, end, node.name))


def take_slope(runner, what, _):
    """Leaves the slope of the last value, a function."""
    runner.worths.append(SlopeMap(runner.worths.pop(), []))


def end_slope(runner, name, _):
    """Leaves the slope of the last value, a number, by an input at 0."""
    slope = slope_of(runner.world, runner.worths.pop(), name)
    runner.worths.append(put_for(runner.world, slope, name, 0))


def apply_last(runner, what, _):
    """Applies a function to the last value, both of which were left."""
    argument = runner.worths.pop()
    function = runner.worths.pop()
    if isinstance(function, UnseenMap):
        runner.worths.append(unseen_form(runner.world, function.name, (function.order,), (argument,)))
    elif isinstance(function, Closure):
        node = function.node
        runner.later([start(node.parts[0], {**function.scope, node.name: argument})])
    else:
        apply_slope(runner, function, argument)


def apply_slope(runner, function, argument):
    """Gives a further argument to a slope; the last one has it taken, by the first one."""
    given = [*function.given, argument]
    if len(function.kind) > 1:
        runner.worths.append(SlopeMap(function.inner, given))
    else:
        name = runner.fresh_name()
        tasks = [finish("value", function.inner)]
        for worth in [given[0] + plain_form(name, name), *given[1:]]:
            tasks.extend([finish("value", worth), finish("apply")])
        runner.later([*tasks, finish("end slope", name)])


ACTIONS = {
    "plus": run_plus,
    "times": run_times,
    "minus": run_minus,
    "call": run_call,
    "numeral": run_numeral,
    "blank": run_blank,
    "name": run_name,
    "slopes": run_slopes,
    "pair": run_pair,
    "fn": run_function,
    "slope": run_slope,
    "integral": run_integral,
    "+": add_last,
    "-": subtract_last,
    "*": multiply_last,
    "negate": negate_last,
    "value": leave_value,
    "apply": apply_last,
    "pair at": apply_unseen,
    "integral to": take_integral,
    "slope of": take_slope,
    "end slope": end_slope,
}
