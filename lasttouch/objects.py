"""Programs as objects, and objects that do actions one after the other."""

from lasttouch.errors import InvalidProgram, Lost, Missing, NothingToUndo, TooLarge
from lasttouch.labels import check_labelling, check_start, may, run
from lasttouch.programs import check_name, check_program, is_program, is_word, names, parts_of
from lasttouch.tables import table, word_table
from lasttouch.texts import read, write


class Flow:
    """A program."""

    def __init__(self, program):
        check_program(program)
        self._program = program

    @classmethod
    def of_text(cls, text):
        """Return the Flow of the program with this text."""
        return cls(read(text))

    @property
    def program(self):
        """The program."""
        return self._program

    @property
    def text(self):
        """The text of the program."""
        return write(self._program)

    @property
    def table(self):
        """The table of the program."""
        return table(self._program)

    def __or__(self, other):
        return _flow_of(("or", self._program, _program_of(other)))

    def __rshift__(self, other):
        return _flow_of(("seq", self._program, _program_of(other)))

    def repeated(self):
        """Return the Flow that does this one any number of times."""
        return _flow_of(("rep", self._program))

    def __call__(self, labelling, start):
        return may(self._program, labelling, start)

    def __eq__(self, other):
        if not isinstance(other, Flow):
            return False
        return self.table == other.table

    def __len__(self):
        return len(parts_of(self._program, ()))

    def __contains__(self, x):
        return x in names(self._program)


class Tracker:
    """Does actions and remembers what stands behind their last occurrences."""

    def __init__(self):
        self._actions = []

    def do(self, name):
        """Do the action; return the set of what stood behind its last occurrence, or None."""
        told = self.behind(name)
        self._check_room(name)
        self._actions.append(name)
        return told

    def behind(self, name):
        """Return the set of the names that stand behind the last occurrence of this one, or None."""
        check_name(name)
        if name not in self._actions:
            return None
        since = self._actions[::-1].index(name)
        return tuple(sorted(set(self._actions[len(self._actions) - since:])))

    def holds(self, labelling, start):
        """Return whether the fact holds behind the actions that were done."""
        return run(tuple(self._actions), labelling, start)

    def undo(self):
        """Take the last action back and return its name."""
        if not self._actions:
            raise NothingToUndo("no action was done")
        return self._actions.pop()

    @property
    def done(self):
        """The list of the actions that were done."""
        return list(self._actions)

    @property
    def table(self):
        """The table of the word of the actions that were done."""
        return word_table(tuple(self._actions))

    def __len__(self):
        return len(self._actions)

    def _check_room(self, name):
        """Raise TooLarge if the action would be one too many."""
        if not is_word((*self._actions, name)):
            raise TooLarge("more than 60 actions or more than 6 different names")


class Keeper(Tracker):
    """A Tracker that does not let the fact be lost."""

    def __init__(self, labelling, start):
        check_labelling(labelling)
        check_start(start)
        super().__init__()
        self._marks = {name: mark for name, mark in labelling}
        self._labelling = labelling
        self._start = start

    @property
    def fact(self):
        """Whether the fact holds now."""
        return run(tuple(self._actions), self._labelling, self._start)

    def do(self, name):
        """Do the action as a Tracker does, unless the fact would be lost."""
        check_name(name)
        if name not in self._marks:
            raise Missing(name)
        self._check_room(name)
        if self.fact and self._marks[name] == "kill":
            raise Lost(name)
        return super().do(name)


def _program_of(value):
    """Return the program of the value; raise InvalidProgram if it is no Flow."""
    if not isinstance(value, Flow):
        raise InvalidProgram("not a Flow")
    return value.program


def _flow_of(program):
    """Return the Flow of what is a program unless it is too large."""
    if not is_program(program):
        raise TooLarge("this would be no program")
    return Flow(program)
