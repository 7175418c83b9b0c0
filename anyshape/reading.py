"""How the cells of an array that a line makes come from those of the arrays that it reads, at given sizes.

A position is a tuple with an integer for each axis, a shape a tuple of the integer sizes.
"""


def position_at(shape, number):
    """The position of the cell with a number."""
    position = []
    for size in shape[::-1]:
        number, index = divmod(number, size)
        position.append(index)
    return tuple(position[::-1])


def number_at(shape, position):
    """The number of the cell at a position."""
    number = 0
    for size, index in zip(shape, position):
        number = number * size + index
    return number


def read_position(line, shape, position):
    """The position, in the array that is read, of the one cell that a cell of the line's array is.

    The shape is that of the array that is read; the line is neither of cells nor of a word.
    """
    word, at = line[1], line[3]
    if word == "permute":
        return tuple([position[at.index(axis)] for axis in range(len(shape))])
    if word == "merge":
        return position[:at] + position_at(shape[at:at + line[4]], position[at]) + position[at + 1:]
    if word == "turn":
        return position[:at] + (shape[at] - 1 - position[at],) + position[at + 1:]
    if word == "spread":
        return position[:at] + position[at + 1:]
    # A picked axis is read at its beginning, and one that is dropped has nothing else.
    return position[:at] + (0,) + position[at:]


def split_position(line, sizes, position):
    """The same for a line that splits an axis to these sizes."""
    at, end = line[3], line[3] + len(sizes)
    return position[:at] + (number_at(sizes, position[at:end]),) + position[end:]


def joined_position(shape, position):
    """The position in an array of such a shape that a line of cells reads for its cell at a position."""
    own = position[len(position) - len(shape):]
    return tuple([0 if size == 1 else index for size, index in zip(shape, own)])


def positions_over(line, shape, position):
    """The list of the positions over which the word of a line goes, for its cell at a position."""
    positions = [()]
    left = list(position)
    for axis, size in enumerate(shape):
        indexes = list(range(size)) if axis in line[3] else [left.pop(0)]
        positions = [begin + (index,) for begin in positions for index in indexes]
    return positions
