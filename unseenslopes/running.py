"""The evaluation of programs.

Tasks wait on a list instead of in nested calls of Python, since the functions of a program may
call one another thousands of times deep.
"""

from unseenslopes.kinds import A_MAP
from unseenslopes.normal import INTEGRAL


class UnseenMap:
    """An unseen function of one argument with some slopes, as a value."""

    def __init__(self, name, order):
        self.kind = A_MAP
        self.name = name
        self.order = order


class Closure:
    """A function of a program with the values of the names around it, as a value."""

    def __init__(self, node, scope):
        self.kind = node.kind
        self.node = node
        self.scope = scope


class SlopeMap:
    """The slope of a function at the arguments that were given so far, as a value.

    `site` is the place of the word slope.
    """

    def __init__(self, inner, given, site):
        self.kind = inner.kind[len(given):]
        self.inner = inner
        self.given = given
        self.site = site


class StripMap:
    """A function whose answers are stripped of a mark, as a value."""

    def __init__(self, inner, mark):
        self.kind = inner.kind
        self.inner = inner
        self.mark = mark


class Runner:
    """The tasks that wait, the last one being the next, and the values that they use and leave.

    A task is a tuple of its word, what it is about, and the values of the names known there.
    """

    def __init__(self, ground):
        self.ground = ground
        self.tasks = []
        self.left = []

    def later(self, tasks):
        """Puts tasks ahead of those that wait."""
        self.tasks.extend(tasks[::-1])


def run_tree(ground, tree):
    """The value of the last expression of a program, with the numbers of a ground."""
    runner = Runner(ground)
    scope = {}
    for name, node in tree.lets:
        scope = {**scope, name: run_node(runner, node, scope)}
    return run_node(runner, tree.last, scope)


def run_node(runner, node, scope):
    """The value of a node."""
    runner.later([start(node, scope)])
    while runner.tasks:
        word, what, known = runner.tasks.pop()
        act = ACTIONS[word]
        act(runner, what, known)
    return runner.left.pop()


def start(node, scope):
    """The task that leaves the value of a node."""
    return (node.word, node, scope)


def finish(word, what=None):
    """A task that uses values that were left, and no names."""
    return (word, what, {})


def run_plus(runner, node, scope):
    """Leaves a sum."""
    tasks = [start(node.parts[0], scope)]
    for part, sign in zip(node.parts[1:], node.held):
        tasks.extend([start(part, scope), finish(sign)])
    runner.later(tasks)


def run_times(runner, node, scope):
    """Leaves a product."""
    tasks = [start(node.parts[0], scope)]
    for part in node.parts[1:]:
        tasks.extend([start(part, scope), finish("*")])
    runner.later(tasks)


def run_minus(runner, node, scope):
    """Leaves the opposite of a value."""
    runner.later([start(node.parts[0], scope), finish("negate")])


def run_call(runner, node, scope):
    """Leaves what a function answers."""
    tasks = [start(node.parts[0], scope)]
    for part in node.parts[1:]:
        tasks.extend([start(part, scope), finish("apply")])
    runner.later(tasks)


def run_numeral(runner, node, _):
    """Leaves a number."""
    runner.left.append(runner.ground.number(node.held))


def run_blank(runner, node, _):
    """Leaves a blank."""
    runner.left.append(runner.ground.blank(node.held))


def run_name(runner, node, scope):
    """Leaves what a name stands for."""
    if node.name in scope:
        runner.left.append(scope[node.name])
    elif node.name in runner.ground.world.inputs():
        runner.left.append(runner.ground.input_number(node.name))
    else:
        runner.left.append(UnseenMap(node.name, 0))


def run_slopes(runner, node, _):
    """Leaves an unseen function with slopes."""
    runner.left.append(UnseenMap(node.name, node.held[0]))


def run_pair(runner, node, scope):
    """Leaves the value of an unseen function at two arguments."""
    runner.later([start(node.parts[0], scope), start(node.parts[1], scope), finish("pair at", node)])


def run_function(runner, node, scope):
    """Leaves a function."""
    runner.left.append(Closure(node, scope))


def run_slope(runner, node, scope):
    """Leaves the slope of a function."""
    runner.later([start(node.parts[0], scope), finish("slope of", node)])


def run_integral(runner, node, scope):
    """Leaves an integral."""
    runner.later([start(node.parts[0], scope), start(node.parts[1], scope), finish("integral to", node)])


def add_last(runner, what, _):
    """Adds the last two values."""
    other = runner.left.pop()
    runner.left.append(runner.left.pop() + other)


def subtract_last(runner, what, _):
    """Takes the last value from the one ahead of it."""
    other = runner.left.pop()
    runner.left.append(runner.left.pop() - other)


def multiply_last(runner, what, _):
    """Multiplies the last two values."""
    other = runner.left.pop()
    runner.left.append(runner.left.pop() * other)


def negate_last(runner, what, _):
    """Leaves the opposite of the last value."""
    runner.left.append(-runner.left.pop())


def leave_value(runner, what, _):
    """Leaves a value that is known."""
    runner.left.append(what)


def apply_unseen(runner, node, _):
    """Leaves the value of an unseen function at the last two values."""
    other = runner.left.pop()
    one = runner.left.pop()
    runner.left.append(runner.ground.value_of(node.name, node.held, (one, other)))


def take_integral(runner, node, _):
    """Leaves the integral between the last two values."""
    end = runner.left.pop()
    begin = runner.left.pop()
    upper = runner.ground.value_of(node.name, (INTEGRAL,), (end,))
    runner.left.append(upper - runner.ground.value_of(node.name, (INTEGRAL,), (begin,)))


def take_slope(runner, node, _):
    """Leaves the slope of the last value, a function."""
    runner.left.append(SlopeMap(runner.left.pop(), [], node.at))


def end_slope(runner, mark, _):
    """Ends the application by which a slope is taken, and strips what it answered."""
    runner.ground.end_slope()
    runner.later([finish("strip", mark)])


def strip_last(runner, mark, _):
    """Strips the last value of a mark: a number at once, a function when it answers."""
    worth = runner.left.pop()
    if is_map(worth):
        runner.left.append(StripMap(worth, mark))
    else:
        runner.left.append(runner.ground.stripped(worth, mark))


def is_map(value):
    """Whether a value is a function."""
    return isinstance(value, (UnseenMap, Closure, SlopeMap, StripMap))


def apply_last(runner, what, _):
    """Applies a function to the last value, both of which were left."""
    argument = runner.left.pop()
    function = runner.left.pop()
    if isinstance(function, UnseenMap):
        runner.left.append(runner.ground.value_of(function.name, (function.order,), (argument,)))
    elif isinstance(function, Closure):
        node = function.node
        runner.later([start(node.parts[0], {**function.scope, node.name: argument})])
    elif isinstance(function, SlopeMap):
        apply_slope(runner, function, argument)
    else:
        runner.later([*applied(function.inner, [argument]), finish("strip", function.mark)])


def applied(function, given):
    """The tasks that leave what a function answers to some arguments."""
    tasks = [finish("value", function)]
    for worth in given:
        tasks.extend([finish("value", worth), finish("apply")])
    return tasks


def apply_slope(runner, function, argument):
    """Gives a further argument to a slope, which is taken by the first one.

    A slope that is renewed is taken when the last argument is given, at all of them anew.
    """
    given = [*function.given, argument]
    if runner.ground.is_renewed and len(function.kind) > 1:
        runner.left.append(SlopeMap(function.inner, given, function.site))
    else:
        mark = runner.ground.begin_slope(function.site)
        moved = runner.ground.moved(given[0], mark)
        runner.later([*applied(function.inner, [moved, *given[1:]]), finish("end slope", mark)])


ACTIONS = {
    "plus": run_plus,
    "times": run_times,
    "minus": run_minus,
    "call": run_call,
    "numeral": run_numeral,
    "blank": run_blank,
    "name": run_name,
    "slopes": run_slopes,
    "pair": run_pair,
    "fn": run_function,
    "slope": run_slope,
    "integral": run_integral,
    "+": add_last,
    "-": subtract_last,
    "*": multiply_last,
    "negate": negate_last,
    "value": leave_value,
    "apply": apply_last,
    "pair at": apply_unseen,
    "integral to": take_integral,
    "slope of": take_slope,
    "end slope": end_slope,
    "strip": strip_last,
}
