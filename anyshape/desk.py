"""A desk: it has a book, and performs commands that are strings."""

from anyshape.alike import Stopped, alike
from anyshape.book import Book, book_like
from anyshape.commands import read_command
from anyshape.decimals import decimal_text
from anyshape.errors import AnyshapeError, InvalidCommand
from anyshape.failures import CommandFailed, LimitError, MissingError, StateError
from anyshape.follow import follows
from anyshape.kinds import is_list
from anyshape.shapes import runs, shape, shape_at
from anyshape.texts import plain_text

NOTHING = "-"


class Desk:
    """A book, at first an empty one, and the log of the commands that were answered."""

    def __init__(self):
        self._book = Book()
        self._log = []

    def do(self, command):
        """Perform a command; the answer."""
        word, names, rest = read_command(command)
        action = ACTIONS[word]
        answer = action(self._book, names, rest)
        self._log.append(command)
        return answer

    def do_all(self, commands):
        """Perform commands up to the first one that raises an error; the list of the answers."""
        if not is_list(commands):
            raise InvalidCommand(commands)
        results = []
        for position, command in enumerate(commands):
            try:
                results.append(self.do(command))
            except (AnyshapeError, MissingError, StateError, LimitError) as error:
                raise CommandFailed(position, results) from error
        return results

    def tried(self, commands):
        """What would be answered to commands; nothing changes."""
        trial = Desk()
        trial._book = book_like(self._book, True)
        return trial.do_all(commands)

    def log(self):
        """The list of the commands that were answered."""
        return list(self._log)

    def book(self):
        """A book that is equal to that of the desk, without deeds."""
        return book_like(self._book, False)


def _put(book, names, program):
    return _words(book.put(names[0], program))


def _drop(book, names, _):
    return _words(book.drop(names[0]))


def _learn(book, _, fact):
    return _words(book.learn(fact))


def _forget(book, _, fact):
    return _words(book.forget(fact))


def _undo(book, _, rest):
    book.undo()
    return "done"


def _runs(book, names, _):
    answer = runs(book.program_named(names[0]))
    return "yes" if answer.is_yes else f"no {answer.line}"


def _shape(book, names, numbers):
    program = book.program_named(names[0])
    if numbers is None:
        return _words([str(size) for size in shape(program)])
    return _words([decimal_text(size) for size in shape_at(program, numbers)])


def _alike(book, names, _):
    answer = alike(book.program_named(names[0]), book.program_named(names[1]))
    if isinstance(answer, Stopped):
        return "stopped"
    return "yes" if answer.is_yes else "no"


def _follows(book, _, goal):
    return "yes" if follows(book.facts(), goal) else "no"


def _classes(book, _, rest):
    groups = [_words(names) for names in book.classes()]
    return " | ".join(groups) if len(groups) > 0 else NOTHING


def _text(book, names, _):
    return plain_text(book.program_named(names[0])).removesuffix("\n")


def _words(words):
    """The words, separated by blanks, or what stands for none."""
    return " ".join(words) if len(words) > 0 else NOTHING


ACTIONS = {
    "put": _put,
    "drop": _drop,
    "learn": _learn,
    "forget": _forget,
    "undo": _undo,
    "runs": _runs,
    "shape": _shape,
    "alike": _alike,
    "follows": _follows,
    "classes": _classes,
    "text": _text,
}
