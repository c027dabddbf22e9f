"""Rules for naming tags, held against programs."""

from unseenslopes.grounds import RatioGround
from unseenslopes.meaning import meaning
from unseenslopes.places import witness_beside
from unseenslopes.tagged import Rule, machine_answer, machine_form
from unseenslopes.witnesses import Witness, check_blanks


class Trial:
    """A rule held against a program: wrong at a witness, or right for all functions."""

    def __init__(self, program, rule, witness=None):
        self.program = program
        self.rule = rule
        self.witness = witness

    @property
    def is_right(self):
        """Whether the rule is said to be right."""
        return self.witness is None

    def answers(self):
        """The tuple of the answer of the program and of that of the machine by the rule, at the witness."""
        answer = self.witness.answer(self.program)
        return (answer, machine_answer(RatioGround(self.witness), self.program, self.rule))

    def holds(self):
        """Whether the trial is right about the rule."""
        if self.witness is None:
            return meaning(self.program) == machine_form(self.program, self.rule)
        if not isinstance(self.witness, Witness) or self.witness.world != self.program.world:
            return False
        answer, found = self.answers()
        return answer != found

    def __bool__(self):
        return self.witness is None

    def __repr__(self):
        return f"Trial({self.rule}: {right_word(self.witness)})"


def right_word(witness):
    """The word for a rule that is right if it has no witness."""
    return "right" if witness is None else "wrong"


def try_rule(program, rule):
    """The trial of a rule with a program."""
    check_blanks(program)
    form = meaning(program)
    answer = machine_form(program, rule)
    return Trial(program, rule, witness_beside(program.world, form - answer, [form, answer]))


def right_rules(program):
    """The list of the strings of the rules that are right for a program."""
    check_blanks(program)
    form = meaning(program)
    return [str(rule) for rule in Rule.every() if machine_form(program, rule) == form]
