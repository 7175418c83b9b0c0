"""Two programs together: their joint facts and names, and whether they have the same inputs."""

from anyshape.checks import joined_names
from anyshape.errors import InvalidProgram, OtherInputs
from anyshape.failures import TooMany
from anyshape.goals import MOST_FACTS
from anyshape.programs import Program
from anyshape.strands import SizeRows


def check_programs(one, other):
    """Raise with the first value that is no program."""
    for value in (one, other):
        if not isinstance(value, Program):
            raise InvalidProgram(value)


def joint_facts(one, other):
    """The joint facts of two programs; raise if they are too many, or all names of sizes are."""
    facts = one.facts()
    for fact in other.facts():
        if fact not in facts:
            facts.append(fact)
    if len(facts) > MOST_FACTS:
        raise TooMany("facts", MOST_FACTS)
    joined_names(one.names(), other.names())
    return facts


def compared_facts(one, other):
    """The joint facts of two programs; raise if these cannot be compared."""
    check_programs(one, other)
    facts = joint_facts(one, other)
    position = other_input(SizeRows(facts), one, other)
    if position is not None:
        raise OtherInputs(position)
    return facts


def other_input(measure, one, other):
    """The position of the first input that two programs have not in common, or None."""
    inputs, further = one.inputs(), other.inputs()
    for position in range(max(len(inputs), len(further))):
        if position >= min(len(inputs), len(further)):
            return position
        if not _are_same(measure, inputs[position], further[position]):
            return position
    return None


def with_facts(program, facts):
    """The program with these facts in place of its own."""
    return Program(program.inputs(), program.lines(), facts)


def _are_same(measure, one, other):
    """Whether two inputs have the same name and axes of equal sizes."""
    if one[0] != other[0] or len(one[1]) != len(other[1]):
        return False
    return all([measure.are_same(size, further) for size, further in zip(one[1], other[1])])
