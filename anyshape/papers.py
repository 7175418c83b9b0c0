"""Whether answers about two programs are right, and how an Alike is made lean."""

from anyshape.alike import Alike, Stopped, Unlike, alike
from anyshape.bitruns import parting_at
from anyshape.checks import joined_names
from anyshape.errors import InvalidAnswer
from anyshape.facts import Fact
from anyshape.goals import MOST_FACTS
from anyshape.joining import compared_facts, with_facts
from anyshape.judged import are_alike_for
from anyshape.kinds import is_integer, is_list
from anyshape.numbers import is_point
from anyshape.places import is_same_crossed
from anyshape.proofs import is_tuple_of, is_why_for
from anyshape.scales import Scales
from anyshape.shapes import Fails, is_fails, runs
from anyshape.strands import SizeRows


def is_answer(one, other, value):
    """Whether any value is a right answer to whether two programs are alike."""
    facts = compared_facts(one, other)
    if isinstance(value, Alike):
        return _are_right_reasons(one, other, facts, value.reasons)
    if isinstance(value, Unlike):
        return _is_right_unlike(with_facts(one, facts), with_facts(other, facts), value)
    return isinstance(value, Stopped) and _is_right_stop(one, other, facts, value)


def lean_answer(one, other, answer):
    """The lean Alike that is left of a right one if reasons are left out from the last one on."""
    facts = compared_facts(one, other)
    if not isinstance(answer, Alike) or not _are_right_reasons(one, other, facts, answer.reasons):
        raise InvalidAnswer(answer)
    left = list(answer.reasons)
    for position in range(len(left) - 1, -1, -1):
        rest = left[:position] + left[position + 1:]
        if _are_enough(one, other, rest):
            left = rest
    return Alike(left)


def _are_right_reasons(one, other, facts, value):
    """Whether any value is reasons for which two programs are alike, if these are their joint facts."""
    if not is_list(value) or len(value) > MOST_FACTS:
        return False
    names = joined_names(one.names(), other.names())
    return all([_is_reason(facts, names, reason) for reason in value]) and _are_enough(one, other, value)


def _is_reason(facts, names, value):
    """Whether any value is a tuple of a fact with these names alone and a why that it follows."""
    if not is_tuple_of(value, 2) or not isinstance(value[0], Fact):
        return False
    return all([name in names for name in value[0].names()]) and is_why_for(facts, value[0], value[1])


def _are_enough(one, other, reasons):
    """Whether two programs with just the facts of the reasons are alike."""
    return are_alike_for(SizeRows([fact for fact, _ in reasons]), one, other)


def _is_right_unlike(one, other, value):
    """Whether an Unlike of two programs with their joint facts is right."""
    if not runs(one).is_yes or not runs(other).is_yes:
        return False
    if not is_point(value.point) or not all([fact.kept_by(value.point) for fact in one.facts()]):
        return False
    parting = parting_at(one, other, value.point)
    return parting is not None and _is_same(parting[0], value.what) and _is_same(parting[1], value.where)


def _is_same(told, value):
    """Whether any value is what is told: None, an integer, a string, or a tuple of integers."""
    if told is None:
        return value is None
    if isinstance(told, tuple):
        return is_tuple_of(value, len(told)) and all([_is_same(one, other) for one, other in zip(told, value)])
    if isinstance(told, str):
        return isinstance(value, str) and value == told
    return is_integer(value) and value == told


def _is_right_stop(one, other, facts, value):
    """Whether a Stopped is the one that is told of two programs, as far as it is not open."""
    answer = alike(one, other)
    if not isinstance(answer, Stopped) or not _is_same(answer.which, value.which):
        return False
    stopped = with_facts(one if answer.which == 0 else other, facts)
    if isinstance(answer.answer, Fails):
        return is_fails(stopped, value.answer)
    return is_same_crossed(Scales(facts), answer.answer, value.answer)
