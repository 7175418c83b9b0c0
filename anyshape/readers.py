"""Readers of texts, which take one line after another as long as some text of their kind begins so."""

from anyshape.book import Book
from anyshape.checks import MOST_NAMES
from anyshape.errors import InvalidInputs, InvalidLine, InvalidText
from anyshape.failures import TooMany
from anyshape.goals import MOST_FACTS, names_in
from anyshape.linetexts import fact_or_none, read_part
from anyshape.numbers import is_name
from anyshape.programs import Program

# In this sequence the parts of a program stand in its text.
KINDS = ("input", "fact", "line")


class ProgramReader:
    """It reads a program, to which names of sizes are added that there are already, and perhaps no facts."""

    def __init__(self, names=(), has_facts=True):
        self._names = tuple(names)
        self._has_facts = has_facts
        self._parts = {kind: [] for kind in KINDS}
        self._program = None

    def made_program(self):
        """The Program that was read so far, or None if it has no input yet."""
        return self._program

    def takes(self, text):
        """Whether some text goes on with this line; if so, it is read."""
        part = read_part(text)
        if part is None or not self._may_stand(part[0]):
            return False
        parts = {kind: list(self._parts[kind]) for kind in KINDS}
        parts[part[0]].append(part[1])
        try:
            program = Program(parts["input"], parts["line"], parts["fact"])
        except (InvalidInputs, InvalidLine, TooMany):
            return False
        if len(set(list(self._names) + program.names())) > MOST_NAMES:
            return False
        self._parts = parts
        self._program = program
        return True

    def _may_stand(self, kind):
        """Whether a part of this kind may come next."""
        if kind == "fact" and not self._has_facts:
            return False
        later = KINDS[KINDS.index(kind) + 1:]
        if any([len(self._parts[other]) > 0 for other in later]):
            return False
        return kind == "input" or self._program is not None


class BookReader:
    """It reads the facts and the programs of a book."""

    def __init__(self):
        self._facts = []
        self._programs = {}
        self._name = None
        self._reader = None

    def facts(self):
        """The list of the facts that were read so far."""
        return list(self._facts)

    def made_programs(self):
        """A dict of the programs by names, or None if the last one has no input yet."""
        if self._name is None:
            return {}
        if self._reader.made_program() is None:
            return None
        return {**self._programs, self._name: self._reader.made_program()}

    def takes(self, text):
        """Whether some text goes on with this line; if so, it is read."""
        if text.startswith("program ") and not text.startswith("program = "):
            return self._begins(text.removeprefix("program "))
        if self._name is not None:
            return self._reader.takes(text)
        fact = fact_or_none(text.removeprefix("fact "))
        if not text.startswith("fact ") or fact is None or len(self._facts) == MOST_FACTS:
            return False
        if len(names_in(self._facts + [fact])) > MOST_NAMES:
            return False
        self._facts.append(fact)
        return True

    def _begins(self, name):
        """Whether a program with this name may come next; if so, it begins."""
        programs = self.made_programs()
        if programs is None or not is_name(name) or len(programs) == Book.MOST:
            return False
        if self._name is not None and name <= self._name:
            return False
        self._programs = programs
        names = names_in(self._facts) + [one for program in list(programs.values()) for one in program.names()]
        self._name = name
        self._reader = ProgramReader(names, False)
        return True


def read_lines(reader, text):
    """Let a reader take all lines of a text; raise at the first one that it does not take. The number of lines."""
    if not isinstance(text, str):
        raise InvalidText(0)
    lines = text.split("\n")
    for number, line in enumerate(lines[:-1]):
        if not reader.takes(line):
            raise InvalidText(number + 1)
    if lines[-1] != "":
        # The last line has no line feed.
        raise InvalidText(len(lines))
    return len(lines) - 1
