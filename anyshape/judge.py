"""The judge: run certificates, questions, and whether answers to them are right."""

from anyshape.alike import alike
from anyshape.certificates import certificate_of, is_certificate_of
from anyshape.covering import is_above
from anyshape.errors import InvalidProgram, InvalidQuestion
from anyshape.follow import against, follows, is_against, is_why, why
from anyshape.memory import in_place, nest_of, view_of
from anyshape.most import Above, cover, is_cover
from anyshape.numbers import is_point
from anyshape.papers import is_answer
from anyshape.programs import Program
from anyshape.proofs import is_tuple_of
from anyshape.questions import is_asked
from anyshape.shapes import is_fails, runs
from anyshape.verdicts import is_right_nest, is_right_place, is_right_view


def run_certificate(program):
    """A run certificate of a program, or None if it does not always run."""
    _check_program(program)
    return certificate_of(program)


def is_run_certificate(program, value):
    """Whether any value is a run certificate of a program."""
    _check_program(program)
    return is_certificate_of(program, value)


def is_question(value):
    """Whether any value is a question."""
    return is_asked(value)


def answer_to(question):
    """A right answer to a question."""
    _check_question(question)
    word, *parts = question
    answers = ANSWERS[word]
    return answers(*parts)


def is_right(question, value):
    """Whether any value is a right answer to a question."""
    _check_question(question)
    word, *parts = question
    judges = JUDGES[word]
    return judges(*parts, value)


def _check_program(value):
    """Raise unless any value is a program."""
    if not isinstance(value, Program):
        raise InvalidProgram(value)


def _check_question(value):
    """Raise unless any value is a question."""
    if not is_asked(value):
        raise InvalidQuestion(value)


def _answer_follows(facts, goal):
    reason = why(facts, goal)
    return ("yes", reason) if reason is not None else ("no", against(facts, goal))


def _answer_runs(program):
    certificate = certificate_of(program)
    return ("yes", certificate) if certificate is not None else ("no", runs(program))


def _answer_alike(one, other):
    return alike(one, other)


def _answer_view(program, name):
    return view_of(program, name)


def _answer_nest(program, name):
    return nest_of(program, name)


def _answer_place(program, source, name):
    return in_place(program, source, name)


def _answer_cover(size, others, facts):
    return cover(size, others, facts)


def _is_right_follows(facts, goal, value):
    # This raises the errors of the question whatever the value is.
    follows(facts, goal)
    if not _is_told(value):
        return False
    return is_why(facts, goal, value[1]) if value[0] == "yes" else is_against(facts, goal, value[1])


def _is_right_runs(program, value):
    if not _is_told(value):
        return False
    return is_certificate_of(program, value[1]) if value[0] == "yes" else is_fails(program, value[1])


def _is_right_alike(one, other, value):
    return is_answer(one, other, value)


def _is_right_view(program, name, value):
    return is_right_view(program, name, value)


def _is_right_nest(program, name, value):
    return is_right_nest(program, name, value)


def _is_right_place(program, source, name, value):
    return is_right_place(program, source, name, value)


def _is_right_cover(size, others, facts, value):
    if is_cover(size, others, value, facts):
        return True
    return isinstance(value, Above) and is_point(value.point) and is_above(facts, size, others, value.point)


def _is_told(value):
    """Whether any value is a tuple of yes or no, and something that shows it."""
    return is_tuple_of(value, 2) and isinstance(value[0], str) and value[0] in ("yes", "no")


ANSWERS = {
    "follows": _answer_follows,
    "runs": _answer_runs,
    "alike": _answer_alike,
    "view": _answer_view,
    "nest": _answer_nest,
    "in place": _answer_place,
    "cover": _answer_cover,
}

JUDGES = {
    "follows": _is_right_follows,
    "runs": _is_right_runs,
    "alike": _is_right_alike,
    "view": _is_right_view,
    "nest": _is_right_nest,
    "in place": _is_right_place,
    "cover": _is_right_cover,
}
