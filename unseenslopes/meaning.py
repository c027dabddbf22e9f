"""The meanings of programs."""

from unseenslopes.grounds import FormGround
from unseenslopes.running import run_tree


def meaning(program):
    """The form that a program means."""
    return run_tree(FormGround(program.world), program.tree)
