"""Programs: texts that were read and checked in a world."""

from unseenslopes.errors import InvalidText
from unseenslopes.grammar import read_tree
from unseenslopes.kinds import check_tree
from unseenslopes.nodes import blanks_of, changed_tree
from unseenslopes.ratios import ratio_of
from unseenslopes.tokens import squeezed
from unseenslopes.writing import write_tree


class Program:
    """A program of a world with the text that it keeps and its tree; it does not change."""

    def __init__(self, world, text):
        tree = read_tree(text)
        check_tree(world, tree)
        self.world = world
        self.tree = tree
        self.text = write_tree(tree)

    def blanks(self):
        """The ascending list of the numbers of the blanks, each once."""
        return blanks_of(self.tree.last)

    def filled(self, numbers):
        """The program in which numbers stand for the first blanks."""
        ratios = [ratio_of(number) for number in numbers]
        return program_of(self.world, changed_tree(self.tree, {}, ratios))

    def in_world(self, world):
        """The program with the same text in another world."""
        return Program(world, self.text)

    def renamed(self, names):
        """The program in which unseen functions stand in for one another, by a dict."""
        for name in sorted(names):
            self.world.fact(name)
        for name in sorted(names.values()):
            self.world.fact(name)
        return program_of(self.world, changed_tree(self.tree, names, []))

    def __eq__(self, other):
        return isinstance(other, Program) and self.text == other.text and self.world == other.world

    def __str__(self):
        return f"{self.text}"

    def __repr__(self):
        return f"Program({self.text})"


def program_of(world, tree):
    """The program of a tree, which may be longer and deeper than a text that is read."""
    text = write_tree(tree)
    check_tree(world, tree)
    program = Program(world, "0")
    program.tree = tree
    program.text = text
    return program


def moved_program(program, world):
    """The program under other facts, in a world with the same names; its text may be longer than one that is read."""
    return program_of(world, program.tree)


def kept_program(world, text):
    """The program with a text that a program keeps, which may be longer than one that is read."""
    program = Program(world, squeezed(text))
    if program.text != text:
        raise InvalidText(0)
    return program
