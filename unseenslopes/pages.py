"""Pages: notebooks as texts with a line for each input, function and program."""

from unseenslopes.errors import InvalidPage, InvalidText, Missing, SlopeError
from unseenslopes.notebook import Notebook, notebook_of
from unseenslopes.programs import kept_program
from unseenslopes.unseen import Unseen, World, is_name


def write_page(book):
    """The page of a notebook."""
    world = book.world
    lines = [f"input {name}\n" for name in world.inputs()]
    lines.extend([f"function {name} {world.fact(name)}\n" for name in world.functions()])
    lines.extend([f"program {name} {book.program_of(name)}\n" for name in book.names()])
    return "".join(lines)


class Draft:
    """What the lines of a page have told so far: the inputs, the facts and the programs by their names."""

    def __init__(self):
        self.told_inputs = []
        self.told_facts = {}
        self.told_programs = {}

    def drafted(self):
        """The world of the inputs and functions."""
        return World(self.told_inputs, self.told_facts)


def read_page(text):
    """The notebook with a page."""
    if not isinstance(text, str):
        raise InvalidPage(0)
    draft = Draft()
    lines = text.split("\n")
    for index, line in enumerate(lines[:-1]):
        if not takes_line(draft, line):
            raise InvalidPage(index)
    if lines[-1] != "":
        raise InvalidPage(len(lines) - 1)
    return notebook_of(draft.drafted(), draft.told_programs)


def takes_line(draft, line):
    """Takes a line, and tells whether it is a valid one behind those that were taken."""
    word, _, rest = line.partition(" ")
    if word == "input":
        return takes_input(draft, rest)
    name, _, told = rest.partition(" ")
    if word == "function":
        return takes_function(draft, name, told)
    return word == "program" and takes_program(draft, name, told)


def takes_input(draft, name):
    """Takes an input, and tells whether it may stand there."""
    if draft.told_facts or draft.told_programs or len(draft.told_inputs) == World.MOST:
        return False
    if not is_name(name) or name in draft.told_inputs:
        return False
    draft.told_inputs.append(name)
    return True


def takes_function(draft, name, told):
    """Takes a function, and tells whether it may stand there."""
    if draft.told_programs or len(draft.told_facts) == World.MOST:
        return False
    if not is_name(name) or name in draft.told_inputs or any([name <= found for found in draft.told_facts]):
        return False
    try:
        fact = Unseen.read(told)
    except InvalidText:
        return False
    draft.told_facts[name] = fact
    return fact.text == told


def takes_program(draft, name, told):
    """Takes a program, and tells whether it may stand there."""
    if not is_name(name) or name in draft.told_programs or len(draft.told_programs) == Notebook.MOST:
        return False
    try:
        program = kept_program(draft.drafted(), told)
    except (SlopeError, Missing):
        return False
    draft.told_programs[name] = program
    return True
