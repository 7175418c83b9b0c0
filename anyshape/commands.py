"""Commands of a desk as texts: a tuple of the word and of what it is told."""

from anyshape.errors import InvalidCommand, InvalidText
from anyshape.goaltexts import goal_or_none
from anyshape.linetexts import fact_or_none, number_or_none
from anyshape.numbers import is_name
from anyshape.texts import read_plain_program

NAMES_AFTER = {"undo": 0, "classes": 0, "drop": 1, "runs": 1, "text": 1, "alike": 2}


def read_command(command):
    """The tuple of the word, the list of the names of programs, and the rest that a command tells."""
    found = _found_command(command) if isinstance(command, str) else None
    if found is None:
        raise InvalidCommand(command)
    return found


def _found_command(command):
    """What a string tells as a command, or None."""
    word, _, rest = command.partition(" ")
    if word == "put":
        return _found_program(rest)
    if word in ("learn", "forget", "follows"):
        found = goal_or_none(rest) if word == "follows" else fact_or_none(rest)
        return None if found is None else (word, [], found)
    names = command.split(" ")[1:]
    if word == "shape" and len(names) > 1:
        numbers = _found_numbers(names[1:])
        return (word, names[:1], numbers) if numbers is not None and is_name(names[0]) else None
    if len(names) != (1 if word == "shape" else NAMES_AFTER.get(word)) or not all([is_name(name) for name in names]):
        return None
    return word, names, None


def _found_program(rest):
    """The command by which a program is put; raise if what follows its name is not the text of one."""
    name, feed, text = rest.partition("\n")
    if feed == "" or not is_name(name):
        return None
    try:
        program = read_plain_program(text)
    except InvalidText as wrong:
        # The name stands in the first line of the command.
        raise InvalidText(wrong.line + 1) from None
    return "put", [name], program


def _found_numbers(words):
    """The dict of the numbers that the words tell, or None."""
    numbers = {}
    for word in words:
        name, _, digits = word.partition("=")
        number = number_or_none(digits)
        if not is_name(name) or name in numbers or number is None or number < 1:
            return None
        numbers[name] = number
    return numbers
