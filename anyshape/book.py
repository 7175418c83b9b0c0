"""Books: programs by names, judged with common facts, and the deeds that change them."""

from anyshape.checks import check_facts, joined_names
from anyshape.errors import InvalidName, InvalidProgram
from anyshape.facts import Fact
from anyshape.failures import NothingToUndo, TooMany, UnknownFact, UnknownName
from anyshape.goals import names_in
from anyshape.joining import with_facts
from anyshape.numbers import is_name
from anyshape.programs import Program
from anyshape.ranking import Ranking
from anyshape.strands import SizeRows


class Book:
    """Facts, and programs by names; it changes by deeds, which can be taken back."""

    MOST = 12

    def __init__(self, facts=()):
        check_facts(facts)
        _check_names(facts, {})
        self._facts = tuple(facts)
        self._programs = {}
        self._ranking = Ranking(SizeRows(facts), {}, {})
        self._past = []

    def put(self, name, program):
        """Put a program under a name, perhaps in place of another one; the news."""
        if not is_name(name):
            raise InvalidName(name)
        if not isinstance(program, Program) or len(program.facts()) > 0:
            raise InvalidProgram(program)
        programs = {**self._programs, name: program}
        if len(programs) > Book.MOST:
            raise TooMany("programs", Book.MOST)
        _check_names(self._facts, programs)
        return self._changed(self._facts, programs, self._ranking.changed(programs, name))

    def drop(self, name):
        """Take a program out of the book; the news."""
        self._check_known(name)
        programs = {other: self._programs[other] for other in self._programs if other != name}
        return self._changed(self._facts, programs, self._ranking.changed(programs, name))

    def learn(self, *facts):
        """Put facts behind those of the book; the news."""
        check_facts(facts, len(facts))
        together = self._facts + facts
        check_facts(together)
        _check_names(together, self._programs)
        return self._changed_facts(together)

    def forget(self, fact):
        """Take the first fact out of the book that is equal to this one; the news."""
        # Not every value that is equal to a fact is one.
        if not isinstance(fact, Fact) or fact not in self._facts:
            raise UnknownFact(fact)
        position = self._facts.index(fact)
        return self._changed_facts(self._facts[:position] + self._facts[position + 1:])

    def undo(self):
        """Take back the last deed that was not taken back."""
        if len(self._past) == 0:
            raise NothingToUndo()
        self._facts, self._programs, self._ranking = self._past.pop()

    def facts(self):
        """The list of the facts."""
        return list(self._facts)

    def names(self):
        """The sorted list of the names of the programs."""
        return sorted(self._programs)

    def program_named(self, name):
        """The program with a name, with the facts of the book."""
        self._check_known(name)
        return with_facts(self._programs[name], self._facts)

    def standing(self, name):
        """The standing of a program, a tuple."""
        self._check_known(name)
        return self._ranking.standings()[name]

    def classes(self):
        """The sorted list of the sorted lists of the names of programs that are alike."""
        groups = {}
        for name, standing in self._ranking.standings().items():
            if standing[0] == "alike":
                groups.setdefault(standing[1], []).append(name)
        return sorted(list(groups.values()))

    @property
    def deeds(self):
        """The number of the deeds that can be taken back."""
        return len(self._past)

    def _check_known(self, name):
        """Raise unless any value is the name of a program."""
        if name not in self:
            raise UnknownName(name)

    def _changed_facts(self, facts):
        """Put these facts in place of those of the book; the news."""
        return self._changed(facts, self._programs, Ranking(SizeRows(facts), self._programs, {}))

    def _changed(self, facts, programs, ranking):
        """Put all this in place of what there is; the news."""
        before, after = self._ranking.standings(), ranking.standings()
        self._past.append((self._facts, self._programs, self._ranking))
        self._facts = tuple(facts)
        self._programs = programs
        self._ranking = ranking
        names = sorted(set(list(before) + list(after)))
        return tuple([name for name in names if before.get(name) != after.get(name)])

    def __contains__(self, value):
        # Not every value can be looked up in a dict.
        return isinstance(value, str) and value in self._programs

    def __len__(self):
        return len(self._programs)

    def __eq__(self, other):
        return isinstance(other, Book) and self._facts == other._facts and self._programs == other._programs


def book_of(facts, programs):
    """The book with these facts and a dict of programs, right in number and names, without deeds."""
    made = Book(facts)
    made._programs = dict(programs)
    made._ranking = Ranking(SizeRows(facts), programs, {})
    return made


def book_like(book, has_deeds):
    """A book that is equal to another one, with the same deeds or without."""
    made = Book()
    made._facts = book._facts
    made._programs = book._programs
    made._ranking = book._ranking
    if has_deeds:
        made._past = list(book._past)
    return made


def _check_names(facts, programs):
    """Raise if facts and programs have too many names of sizes."""
    joined_names(names_in(facts), [name for program in list(programs.values()) for name in program.names()])
