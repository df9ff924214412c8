"""The grid, in each column and each row of which stand one X and one O, and its text."""

from gridknot.errors import InvalidGrid, InvalidNumber, InvalidText
from gridknot.kinds import is_number_below, is_sequence


def holds_each_once(value, size):
    """Whether the sequence value holds each number below size once, and nothing else."""
    if len(value) != size:
        return False
    met = [False] * size
    for member in value:
        if not is_number_below(member, size) or met[member]:
            return False
        met[member] = True
    return True


def makes_grid(xs, ohs):
    """Whether there is a grid with these rows of its marks, for any values."""
    if not is_sequence(xs) or not is_sequence(ohs):
        return False
    size = len(xs)
    if size < 2 or not holds_each_once(xs, size) or not holds_each_once(ohs, size):
        return False
    return all([x != o for x, o in zip(xs, ohs)])


def columns_by_row(rows):
    """For each row the column that has its mark there, rows being those of the marks of the columns."""
    columns = [0] * len(rows)
    for i, r in enumerate(rows):
        columns[r] = i
    return columns


def row_text(size, x, o):
    """The line of a row of that size with its X in column x and its O in column o."""
    marks = ["."] * size
    marks[x] = "X"
    marks[o] = "O"
    return "".join(marks)


def text_lines(xs, ohs):
    """The lines of a grid's text, the highest row first."""
    size = len(xs)
    x_columns = columns_by_row(xs)
    o_columns = columns_by_row(ohs)
    return [row_text(size, x_columns[r], o_columns[r]) for r in reversed(range(size))]


class Grid:
    """A grid that never changes: column i has its X in row xs[i] and its O in row ohs[i]."""

    def __init__(self, xs, ohs):
        if not makes_grid(xs, ohs):
            raise InvalidGrid((xs, ohs))
        self.xs = tuple(xs)
        self.ohs = tuple(ohs)

    def __eq__(self, other):
        return isinstance(other, Grid) and self.xs == other.xs and self.ohs == other.ohs

    def __len__(self):
        return len(self.xs)

    def __str__(self):
        return "\n".join(text_lines(self.xs, self.ohs))

    def pair(self):
        """The rows of the X and the rows of the O, column by column."""
        return (self.xs, self.ohs)


def x_column(grid, r):
    """The column of the X of row r."""
    if not is_number_below(r, len(grid)):
        raise InvalidNumber(r)
    return grid.xs.index(r)


def o_column(grid, r):
    """The column of the O of row r."""
    if not is_number_below(r, len(grid)):
        raise InvalidNumber(r)
    return grid.ohs.index(r)


def is_row_text(line, size):
    """Whether line is one X, one O and else only dots, size characters in all."""
    if len(line) != size or line.count(".") != size - 2:
        return False
    return line.count("X") == 1 and line.count("O") == 1


def read_grid(text):
    """The grid whose text this is."""
    lines = text.split("\n")
    size = len(lines)
    xs = [None] * size
    ohs = [None] * size
    begin = 0
    for k, line in enumerate(lines):
        if not is_row_text(line, size):
            raise InvalidText(text, begin)
        x = line.find("X")
        o = line.find("O")
        if xs[x] is not None:
            raise InvalidText(text, begin + x)
        if ohs[o] is not None:
            raise InvalidText(text, begin + o)
        xs[x] = size - 1 - k
        ohs[o] = size - 1 - k
        begin = begin + size + 1
    return Grid(xs, ohs)
