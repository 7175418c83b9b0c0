"""Programs: inputs, lines that make arrays from them, and facts about the sizes of axes."""

from anyshape.checks import MOST_NAMES, check_facts
from anyshape.errors import InvalidInputs, InvalidLine
from anyshape.failures import TooMany, UnknownArray
from anyshape.goals import names_in
from anyshape.kinds import is_list
from anyshape.lines import are_sizes, arrays_read, axes_made, is_line, leaves_made, new_sizes
from anyshape.numbers import is_name

MOST_INPUTS = 3
MOST_INPUT_AXES = 4


class Program:
    """Inputs, lines and facts; it does not change."""

    MOST_LINES = 24
    MOST_AXES = 8
    MOST_LEAVES = 64

    def __init__(self, inputs, lines=(), facts=()):
        self._axes = {}
        self._leaves = {}
        self._add_inputs(inputs)
        self._add_lines(lines)
        check_facts(facts)
        self._inputs = tuple(inputs)
        self._lines = tuple(lines)
        self._facts = tuple(facts)
        self._names = _names_of(self._inputs, self._lines, self._facts)
        if len(self._names) > MOST_NAMES:
            raise TooMany("names", MOST_NAMES)

    def _add_inputs(self, inputs):
        """Count the axes of the inputs, if they are right."""
        if not is_list(inputs) or not 1 <= len(inputs) <= MOST_INPUTS:
            raise InvalidInputs(None)
        for position, value in enumerate(inputs):
            if not _is_new_input(value, self._axes):
                raise InvalidInputs(position)
            self._axes[value[0]] = len(value[1])
            self._leaves[value[0]] = 1

    def _add_lines(self, lines):
        """Count the axes and leaves of the arrays of the lines, if these are right."""
        if not is_list(lines) or len(lines) > Program.MOST_LINES:
            raise InvalidLine(None)
        for position, line in enumerate(lines):
            if not is_line(line, self._axes):
                raise InvalidLine(position)
            axes = axes_made(line, self._axes)
            leaves = leaves_made(line, self._leaves)
            if axes > Program.MOST_AXES:
                raise TooMany("axes", Program.MOST_AXES)
            if leaves > Program.MOST_LEAVES:
                raise TooMany("leaves", Program.MOST_LEAVES)
            self._axes[line[0]] = axes
            self._leaves[line[0]] = leaves

    def inputs(self):
        """The list of the inputs."""
        return list(self._inputs)

    def lines(self):
        """The list of the lines."""
        return list(self._lines)

    def facts(self):
        """The list of the facts."""
        return list(self._facts)

    def arrays(self):
        """The list of the names of all arrays, inputs first."""
        return list(self._axes)

    def names(self):
        """The sorted list of the names of sizes."""
        return list(self._names)

    @property
    def result(self):
        """The name of the array of the last line, or of the last input if there are no lines."""
        return list(self._axes)[-1]

    def axis_count(self, name=None):
        """The number of axes of an array."""
        return self._axes[named_array(self, name)]

    def leaf_count(self, name=None):
        """The number of leaves of an array."""
        return self._leaves[named_array(self, name)]

    def line_of(self, name=None):
        """The position of the line that makes an array, None for an input."""
        position = list(self._axes).index(named_array(self, name)) - len(self._inputs)
        return position if position >= 0 else None

    def extended(self, *lines):
        """The program with these lines behind its own."""
        return Program(self._inputs, self._lines + lines, self._facts)

    def knowing(self, *facts):
        """The program with these facts behind its own."""
        return Program(self._inputs, self._lines, self._facts + facts)

    def only(self, name=None):
        """The program with all inputs and facts, and just the lines from which an array comes."""
        found = named_array(self, name)
        if self.line_of(found) is None:
            raise UnknownArray(found)
        lines = [self._lines[position] for position in lines_behind(self, found)]
        return Program(self._inputs, lines, self._facts)

    def __contains__(self, value):
        # Not every value can be looked up in a dict.
        return isinstance(value, str) and value in self._axes

    def __len__(self):
        return len(self._lines)

    def __eq__(self, other):
        return (isinstance(other, Program) and self._inputs == other._inputs
                and self._lines == other._lines and self._facts == other._facts)

    def __repr__(self):
        return f"Program({self.result!r})"


def named_array(program, name):
    """The name of the array that is meant, None being the result; raise if there is none."""
    if name is None:
        return program.result
    if name not in program:
        raise UnknownArray(name)
    return name


def lines_behind(program, name):
    """The ascending list of the positions of the lines from which an array comes, its own included."""
    needed = [name]
    positions = []
    lines = program.lines()
    for position in range(len(lines) - 1, -1, -1):
        if lines[position][0] in needed:
            needed.extend(arrays_read(lines[position]))
            positions.append(position)
    return positions[::-1]


def _is_new_input(value, taken):
    """Whether any value is an input with a name that is not taken."""
    if not isinstance(value, tuple) or len(value) != 2 or not is_name(value[0]) or value[0] in taken:
        return False
    return are_sizes(value[1]) and len(value[1]) <= MOST_INPUT_AXES


def _names_of(inputs, lines, facts):
    """The sorted list of all names of sizes in the parts of a program."""
    sizes = [size for _, axes in inputs for size in axes]
    sizes = sizes + [size for line in lines for size in new_sizes(line)]
    return sorted(set([name for size in sizes for name in size.names()] + names_in(facts)))
