"""The rules for naming the tags of the machine, and what the machine answers by them."""

from unseenslopes.errors import InvalidName
from unseenslopes.grounds import FormGround
from unseenslopes.machine import Machine
from unseenslopes.running import run_tree

NAMINGS = ("one", "site", "depth", "new")


def word_of(renewed):
    """The word for what becomes of slopes that are functions."""
    return "renewed" if renewed else "kept"


class Rule:
    """How tags are named, and whether slopes that are functions are renewed or kept; it does not change."""

    def __init__(self, naming="new", *, renewed=True):
        if not isinstance(naming, str) or naming not in NAMINGS:
            raise InvalidName(naming)
        self.naming = naming
        self.renewed = renewed

    @staticmethod
    def every():
        """The list of the eight rules."""
        return [Rule(naming, renewed=renewed) for naming in NAMINGS for renewed in (False, True)]

    def __eq__(self, other):
        return isinstance(other, Rule) and self.naming == other.naming and self.renewed == other.renewed

    def __str__(self):
        return f"{self.naming} {word_of(self.renewed)}"

    def __repr__(self):
        return f"Rule({self})"


def machine_form(program, rule):
    """The form that the machine answers for a program by a rule."""
    return machine_answer(FormGround(program.world), program, rule)


def machine_answer(base, program, rule):
    """The part without tags that the machine answers, over the numbers of a base ground."""
    machine = Machine(base, rule.naming, rule.renewed)
    return machine.plain_part(run_tree(machine, program.tree))
