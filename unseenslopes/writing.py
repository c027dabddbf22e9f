"""Trees of programs are written as the texts that programs keep."""

from unseenslopes.nodes import OF_MAP


class Pen:
    """Collects the pieces of a text and knows its length so far."""

    def __init__(self):
        self.pieces = []
        self.at = 0

    def write(self, piece):
        """Writes a piece behind what stands there, and tells its place."""
        at = self.at
        self.pieces.append(piece)
        self.at = at + len(piece)
        return at


def write_tree(tree):
    """The text of a program; the places in its nodes are set to those in this text."""
    pen = Pen()
    for name, node in tree.lets:
        pen.write(f"let {name} = ")
        write_node(pen, node)
        pen.write("; ")
    write_node(pen, tree.last)
    return "".join(pen.pieces)


def write_node(pen, node):
    """Writes a node and sets its places."""
    node.at = pen.at
    write = WRITERS[node.word]
    write(pen, node)


def write_within(pen, node, words):
    """Writes a node, in parentheses if it is of one of the words."""
    if node.word in words:
        pen.write("(")
        write_node(pen, node)
        pen.write(")")
    else:
        write_node(pen, node)


def write_row(pen, node, signs, words):
    """Writes parts with signs between, and sets the places of the signs.

    The first part needs no parentheses where the others of its kind do: all group from the left.
    """
    first = [word for word in words if word != node.word]
    write_within(pen, node.parts[0], first)
    marks = []
    for part, sign in zip(node.parts[1:], signs):
        pen.write(" ")
        marks.append(pen.write(sign))
        pen.write(" ")
        write_within(pen, part, words)
    node.marks = marks


def write_plus(pen, node):
    """Writes a sum."""
    write_row(pen, node, node.held, ("plus",))


def write_times(pen, node):
    """Writes a product."""
    write_row(pen, node, ["*" for _ in node.marks], ("plus", "times"))


def write_minus(pen, node):
    """Writes an expression behind a minus sign."""
    pen.write("-")
    write_within(pen, node.parts[0], ("plus", "times", "minus"))


def write_call(pen, node):
    """Writes a head and its arguments, and sets the places of the parentheses."""
    write_within(pen, node.parts[0], ("fn",))
    marks = []
    for part in node.parts[1:]:
        marks.append(pen.write("("))
        write_node(pen, part)
        pen.write(")")
    node.marks = marks


def write_numeral(pen, node):
    """Writes a Ratio."""
    pen.write(str(node.held))


def write_blank(pen, node):
    """Writes a blank."""
    pen.write(f"?{node.held}")


def write_name(pen, node):
    """Writes a name."""
    pen.write(node.name)


def write_slopes(pen, node):
    """Writes an unseen function with slopes."""
    pen.write(f"{node.name}[{node.held[0]}]")


def write_pair(pen, node):
    """Writes a value at two arguments."""
    one, other = node.held
    pen.write(node.name if one == 0 and other == 0 else f"{node.name}[{one},{other}]")
    pen.write("(")
    write_node(pen, node.parts[0])
    pen.write(", ")
    write_node(pen, node.parts[1])
    pen.write(")")


def write_function(pen, node):
    """Writes a function."""
    sign = "@" if node.held == OF_MAP else ""
    pen.write(f"fn {sign}{node.name}: ")
    write_node(pen, node.parts[0])


def write_slope(pen, node):
    """Writes a slope."""
    pen.write("slope(")
    write_node(pen, node.parts[0])
    pen.write(")")


def write_integral(pen, node):
    """Writes an integral."""
    pen.write("integral(")
    write_node(pen, node.parts[0])
    pen.write(", ")
    write_node(pen, node.parts[1])
    pen.write(f", {node.name})")


WRITERS = {
    "plus": write_plus,
    "times": write_times,
    "minus": write_minus,
    "call": write_call,
    "numeral": write_numeral,
    "blank": write_blank,
    "name": write_name,
    "slopes": write_slopes,
    "pair": write_pair,
    "fn": write_function,
    "slope": write_slope,
    "integral": write_integral,
}
