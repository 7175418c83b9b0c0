"""Which tuples are questions."""

from anyshape.facts import Fact
from anyshape.goals import Goal
from anyshape.kinds import is_list
from anyshape.lines import is_size
from anyshape.numbers import is_name
from anyshape.programs import Program

# What stands behind the word: facts, a goal, a program, an input, a name or None, a size, others.
FORMS = {
    "follows": "fg",
    "runs": "p",
    "alike": "pp",
    "view": "pn",
    "nest": "pn",
    "in place": "pin",
    "cover": "sof",
}


def is_asked(value):
    """Whether any value is a question."""
    if not isinstance(value, tuple) or len(value) == 0 or not isinstance(value[0], str) or value[0] not in FORMS:
        return False
    form = FORMS[value[0]]
    if len(value) != 1 + len(form):
        return False
    return all([_is_part(letter, part) for letter, part in zip(form, value[1:])])


def _is_part(letter, value):
    """Whether any value is a part of the kind that a letter stands for."""
    if letter == "f":
        return is_list(value) and all([isinstance(fact, Fact) for fact in value])
    if letter == "o":
        return is_list(value) and all([is_size(size) for size in value])
    if letter == "g":
        return isinstance(value, Goal)
    if letter == "p":
        return isinstance(value, Program)
    if letter == "s":
        return is_size(value)
    return is_name(value) or (letter == "n" and value is None)
