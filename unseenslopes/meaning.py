"""The meanings of programs."""

from unseenslopes.running import run_tree


def meaning(program):
    """The form that a program means."""
    return run_tree(program.world, program.tree)
