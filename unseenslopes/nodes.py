"""The trees of programs."""

OF_NUMBER = "x"
OF_MAP = "@"


class Node:
    """A part of a program.

    word      parts                    name       held                marks
    plus      the summands             -          their signs         places of the signs
    times     the factors              -          -                   places of the signs
    minus     what stands behind       -          -                   -
    call      the head, the arguments  -          -                   places of the parentheses
    numeral   -                        -          the Ratio           -
    blank     -                        -          its number          -
    name      -                        the name   -                   -
    slopes    -                        the name   its slopes (1,)     -
    pair      the two arguments        the name   its slopes (1, 2)   -
    fn        the body                 parameter  OF_NUMBER, OF_MAP   -
    slope     what it is taken of      -          -                   -
    integral  begin, end               the name   -                   -

    `at` is the place of the sign, the numeral, the blank, the word or the name. A plus, times or
    call has the places of its signs or parentheses in `marks`, one for each part behind the first
    one. `kind` is set for a fn when its program is checked.
    """

    def __init__(self, word, at, *, parts=(), name="", held=None, marks=()):
        self.word = word
        self.at = at
        self.parts = parts
        self.name = name
        self.held = held
        self.marks = marks
        self.kind = ""


class Tree:
    """A program: the list of the lets, each a tuple of a name and a node, and the last expression."""

    def __init__(self, lets, last):
        self.lets = lets
        self.last = last


def blanks_of(node):
    """The ascending list of the numbers of the blanks in a node, each once."""
    found = [node.held] if node.word == "blank" else []
    for part in node.parts:
        found.extend(blanks_of(part))
    return sorted(set(found))


def changed_tree(tree, names, numbers):
    """A tree of new nodes in which other names and numbers stand, their places not yet right."""
    lets = [(name, changed(node, names, numbers)) for name, node in tree.lets]
    return Tree(lets, changed(tree.last, names, numbers))


def changed(node, names, numbers):
    """A new node in which names stand by a dict for names, and Ratios by their indexes for blanks."""
    if node.word == "blank" and node.held <= len(numbers):
        return number_node(numbers[node.held - 1])
    parts = [changed(part, names, numbers) for part in node.parts]
    name = names.get(node.name, node.name)
    return Node(node.word, node.at, parts=parts, name=name, held=node.held, marks=node.marks)


def number_node(ratio):
    """The node of a Ratio: below 0, a minus sign and the opposite."""
    numeral = Node("numeral", 0, held=abs(ratio))
    return Node("minus", 0, parts=[numeral]) if ratio.top < 0 else numeral
