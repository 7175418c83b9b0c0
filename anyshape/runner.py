"""The runner: cells of the arrays of a program at given numbers."""

from anyshape.errors import InvalidContents, InvalidIndex, InvalidMeanings, InvalidPositions, InvalidProgram
from anyshape.failures import DoesNotRun, TooMany
from anyshape.kinds import is_integer, is_list
from anyshape.lines import WORDS, arrays_read
from anyshape.measures import ByNumbers, product_of
from anyshape.programs import Program, lines_behind, named_array
from anyshape.reading import (joined_position, number_at, position_at, positions_over, read_position,
                              split_position)
from anyshape.shapes import check_kept
from anyshape.shaping import shapes_by
from anyshape.terms import value_of, word_over

MOST_CELLS = 4096
MOST_TERMS = 20000


class Runner:
    """A program at numbers that keep its facts; it does not change."""

    def __init__(self, program, numbers):
        if not isinstance(program, Program):
            raise InvalidProgram(program)
        check_kept(program, numbers)
        self._program = program
        self._numbers = {name: numbers[name] for name in program.names()}
        self._shapes, broken = shapes_by(ByNumbers(self._numbers), program)
        self._failing = None if broken is None else broken[0]
        self._inputs = [name for name, _ in program.inputs()]
        self._lines = {line[0]: line for line in program.lines()}

    @property
    def program(self):
        """The program."""
        return self._program

    @property
    def numbers(self):
        """A dict of the numbers for the names of the program, its keys sorted."""
        return dict(self._numbers)

    @property
    def failing(self):
        """The position of the first line of which a condition does not hold, or None."""
        return self._failing

    def shape(self, name=None):
        """The tuple of the sizes of the axes of an array."""
        return self._shapes[self._made(name)]

    def cost(self, name=None):
        """How many cells of inputs are read for one cell of an array."""
        return self._cost_of(self._made(name))

    def cell(self, positions, name=None):
        """The term of the cell at a position."""
        found = self._made(name)
        if not _is_position(positions, self._shapes[found]):
            raise InvalidPositions(positions)
        self._check_cost(found, 1)
        return self._term(found, tuple(positions))

    def cell_at(self, number, name=None):
        """The term of the cell with a number."""
        found = self._made(name)
        if not is_integer(number) or not 0 <= number < product_of(self._shapes[found]):
            raise InvalidIndex(number)
        self._check_cost(found, 1)
        return self._term(found, position_at(self._shapes[found], number))

    def walk(self, name=None):
        """The tuples (positions, term) of all cells of an array, by their numbers."""
        found = self._made(name)
        many = self._checked_count(found)
        for number in range(many):
            position = position_at(self._shapes[found], number)
            yield position, self._term(found, position)

    def cell_values(self, contents, meanings, name=None):
        """The list of the values of all cells of an array, by their numbers."""
        found = self._made(name)
        self._check_contents(contents)
        self._check_meanings(meanings, found)
        many = self._checked_count(found)
        shape = self._shapes[found]
        terms = [self._term(found, position_at(shape, number)) for number in range(many)]
        return [value_of(term, contents, meanings) for term in terms]

    def _made(self, name):
        """The name of the array that is meant; raise unless it is made."""
        found = named_array(self._program, name)
        if found not in self._shapes:
            raise DoesNotRun(self._failing)
        return found

    def _cost_of(self, name):
        """The cost of an array that is made."""
        if name in self._inputs:
            return 1
        line = self._lines[name]
        cost = sum([self._cost_of(read) for read in arrays_read(line)])
        if line[1] in WORDS:
            shape = self._shapes[line[2]]
            cost = cost * product_of([shape[axis] for axis in line[3]])
        return cost

    def _check_cost(self, name, cells):
        """Raise if so many cells of an array have too great a cost."""
        if self._cost_of(name) * cells > MOST_TERMS:
            raise TooMany("terms", MOST_TERMS)

    def _checked_count(self, name):
        """The number of cells of an array; raise if these are too many to be told, or too costly."""
        many = product_of(self._shapes[name])
        if many > MOST_CELLS:
            raise TooMany("cells", MOST_CELLS)
        self._check_cost(name, many)
        return many

    def _check_contents(self, contents):
        """Raise unless the value is contents of the inputs."""
        if not isinstance(contents, dict) or len(contents) != len(self._inputs):
            raise InvalidContents(None)
        if any([name not in contents for name in self._inputs]):
            raise InvalidContents(None)
        for name in self._inputs:
            if not _is_content(contents[name], product_of(self._shapes[name])):
                raise InvalidContents(name)

    def _check_meanings(self, meanings, name):
        """Raise unless the value is a dict with all letters of the lines from which an array comes."""
        if not isinstance(meanings, dict):
            raise InvalidMeanings(None)
        lines = self._program.lines()
        behind = [lines[position] for position in lines_behind(self._program, name)]
        for letter in sorted(set([line[2] for line in behind if line[1] == "cells"])):
            if letter not in meanings:
                raise InvalidMeanings(letter)

    def _term(self, name, position):
        """The term of the cell of an array at a position."""
        if name in self._inputs:
            return "in", name, number_at(self._shapes[name], position)
        line = self._lines[name]
        word, read = line[1], line[2]
        if word == "cells":
            terms = [self._term(one, joined_position(self._shapes[one], position)) for one in line[3]]
            return "let", read, tuple(terms)
        if word in WORDS:
            terms = [self._term(read, inner) for inner in positions_over(line, self._shapes[read], position)]
            return word_over(word, terms)
        if word == "split":
            sizes = self._shapes[name][line[3]:line[3] + len(line[4])]
            return self._term(read, split_position(line, sizes, position))
        return self._term(read, read_position(line, self._shapes[read], position))

    def __contains__(self, value):
        # Not every value can be looked up in a dict.
        return isinstance(value, str) and value in self._shapes

    def __eq__(self, other):
        return (isinstance(other, Runner) and self._program == other._program
                and self._numbers == other._numbers)


def _is_position(value, shape):
    """Whether any value is a list of an integer for each axis that is below its size."""
    if not is_list(value) or len(value) != len(shape):
        return False
    return all([is_integer(index) and 0 <= index < size for index, size in zip(value, shape)])


def _is_content(value, many):
    """Whether any value is a list of so many integers."""
    return is_list(value) and len(value) == many and all([is_integer(number) for number in value])
