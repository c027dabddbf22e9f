"""Notebooks: programs of one world by name, with undo and with verdicts that are kept."""

from unseenslopes.errors import InvalidName, NameTaken, NotNow, NothingLeft, TooLarge, UnknownName
from unseenslopes.programs import Program, moved_program
from unseenslopes.unseen import is_name
from unseenslopes.verdicts import compare


def moved_programs(programs, world):
    """The dict of programs under the facts of a world."""
    return {name: moved_program(programs[name], world) for name in programs}


def has_same_text(name, one, other):
    """Whether a program is in two dicts with the same text."""
    return name in one and name in other and one[name].text == other[name].text


class Notebook:
    """Programs by name, and verdicts.

    A dict of programs is never changed once it stands in a notebook, so that steps and twins may
    share it; a step that can be undone or redone is the tuple of the world and the dict that it
    leads back to.
    """

    MOST = 12

    def __init__(self, world):
        self.world = world
        self.asked = 0
        self._programs = {}
        self._verdicts = {}
        self._done = []
        self._undone = []
        self._supposing = False

    @property
    def is_supposing(self):
        """Whether `under` is running."""
        return self._supposing

    def names(self):
        """The list of the names, in the order in which they were put first."""
        return list(self._programs)

    def put(self, name, text):
        """Puts a program under a name, a new one behind all others."""
        self.check_now("put")
        if not is_name(name):
            raise InvalidName(name)
        if name not in self._programs and len(self._programs) == Notebook.MOST:
            raise TooLarge("programs", Notebook.MOST)
        self.take_step(self.world, {**self._programs, name: Program(self.world, text)})

    def drop(self, name):
        """Strikes a program."""
        self.check_now("drop")
        self.check_known(name)
        self.take_step(self.world, {found: self._programs[found] for found in self._programs if found != name})

    def rename(self, name, fresh):
        """Gives another name to a program, which keeps its place."""
        self.check_now("rename")
        self.check_known(name)
        if not is_name(fresh):
            raise InvalidName(fresh)
        if fresh in self._programs:
            raise NameTaken(fresh)
        programs = self._programs
        self.take_step(self.world, {fresh if found == name else found: programs[found] for found in programs})

    def assume(self, name, fact):
        """Lets other facts hold about an unseen function."""
        self.check_now("assume")
        world = self.world.with_fact(name, fact)
        self.take_step(world, moved_programs(self._programs, world))

    def undo(self):
        """Takes the last step back."""
        self.check_now("undo")
        if not self._done:
            raise NothingLeft("undo")
        self._undone.append((self.world, self._programs))
        world, programs = self._done.pop()
        self.turn_to(world, programs)

    def redo(self):
        """Takes the last step that was undone again."""
        self.check_now("redo")
        if not self._undone:
            raise NothingLeft("redo")
        self._done.append((self.world, self._programs))
        world, programs = self._undone.pop()
        self.turn_to(world, programs)

    def history(self):
        """The tuple of the numbers of steps that can be undone and redone."""
        return (len(self._done), len(self._undone))

    def program_of(self, name):
        """The program with a name."""
        self.check_known(name)
        return self._programs[name]

    def verdict(self, one, other):
        """The verdict on two programs by their names, which is kept."""
        self.check_known(one)
        self.check_known(other)
        if (one, other) not in self._verdicts:
            self._verdicts[one, other] = compare(self._programs[one], self._programs[other])
            self.asked += 1
        return self._verdicts[one, other]

    def kept(self):
        """The ascending list of the tuples of the two names of the verdicts that are kept."""
        return sorted(self._verdicts)

    def under(self, ask, **facts):
        """What a function answers about the notebook while other facts hold about unseen functions."""
        supposed = self.world
        for name in sorted(facts):
            supposed = supposed.with_fact(name, facts[name])
        world = self.world
        programs = self._programs
        verdicts = self._verdicts
        was_supposing = self._supposing
        self.suppose(supposed)
        try:
            return ask(self)
        finally:
            self.world = world
            self._programs = programs
            self._verdicts = verdicts
            self._supposing = was_supposing

    def twin(self):
        """An independent notebook with the same programs, facts, steps and verdicts."""
        book = Notebook(self.world)
        book.asked = self.asked
        book._programs = self._programs
        book._verdicts = dict(self._verdicts)
        book._done = list(self._done)
        book._undone = list(self._undone)
        return book

    def check_now(self, deed):
        """Raises NotNow for a deed while `under` is running."""
        if self._supposing:
            raise NotNow(deed)

    def check_known(self, name):
        """Raises UnknownName for any value that is no name of a program."""
        if name not in self:
            raise UnknownName(name)

    def take_step(self, world, programs):
        """Takes a step to a world and programs."""
        self._done.append((self.world, self._programs))
        self._undone = []
        self.turn_to(world, programs)

    def turn_to(self, world, programs):
        """Lets a world and programs stand in the place of those that are there; verdicts on what changes go."""
        is_same = world == self.world
        changed = [name for name in self._programs if not has_same_text(name, self._programs, programs)]
        pairs = [pair for pair in self._verdicts if is_same and pair[0] not in changed and pair[1] not in changed]
        self._verdicts = {pair: self._verdicts[pair] for pair in pairs}
        self.world = world
        self._programs = programs

    def suppose(self, world):
        """Lets the facts of a world hold for a time."""
        self._programs = moved_programs(self._programs, world)
        self.world = world
        self._verdicts = {}
        self._supposing = True

    def __contains__(self, name):
        return isinstance(name, str) and name in self._programs

    def __getitem__(self, name):
        self.check_known(name)
        return self._programs[name].text

    def __setitem__(self, name, text):
        self.put(name, text)

    def __iter__(self):
        raise TypeError("a notebook is not iterated over: take its names")

    def __len__(self):
        return len(self._programs)

    def __eq__(self, other):
        if not isinstance(other, Notebook) or self.world != other.world:
            return False
        return told_programs(self) == told_programs(other)

    def __repr__(self):
        return f"Notebook({len(self._programs)} programs)"


def told_programs(book):
    """The list of the tuples of the names and the texts of the programs of a notebook, in its order."""
    return [(name, book.program_of(name).text) for name in book.names()]


def notebook_of(world, programs):
    """The notebook with a dict of programs of a world, without steps and verdicts."""
    book = Notebook(world)
    book._programs = dict(programs)
    return book
