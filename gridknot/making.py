"""Grids made of others: mirrored, turned, beside one another, summed and doubled."""

from gridknot.errors import InvalidNumber
from gridknot.grids import Grid, columns_by_row
from gridknot.kinds import is_number_below


def mirrored(grid):
    """The grid with its columns in the other order: it tells the mirror image."""
    return Grid(grid.xs[::-1], grid.ohs[::-1])


def tipped(grid):
    """The grid with columns and rows, and X and O, exchanged: it tells the same link."""
    return Grid(columns_by_row(grid.ohs), columns_by_row(grid.xs))


def turned_about(grid):
    """The grid with X and O exchanged: all directions are the other way round."""
    return Grid(grid.ohs, grid.xs)


def heads_down(rows):
    """The rows of the marks when columns and rows are both in the other order."""
    return [len(rows) - 1 - r for r in reversed(rows)]


def upside_down(grid):
    """The grid with its columns and its rows in the other order: it tells the same link."""
    return Grid(heads_down(grid.xs), heads_down(grid.ohs))


def raised(rows, by):
    """The rows moved up."""
    return tuple([r + by for r in rows])


def beside(one, other):
    """The grid of both links apart from each other, other behind and above one."""
    size = len(one)
    return Grid(one.xs + raised(other.xs, size), one.ohs + raised(other.ohs, size))


def turned_to_zero(rows, i, r):
    """The rows of the marks when the columns and the rows are turned so that column i and row r become 0."""
    return tuple([(k - r) % len(rows) for k in rows[i:] + rows[:i]])


def summed(one, i, other, j):
    """The grid of the sum of the ring of column i of one and that of column j of other."""
    if not is_number_below(i, len(one)):
        raise InvalidNumber(i)
    if not is_number_below(j, len(other)):
        raise InvalidNumber(j)
    last = len(one) - 1
    # What stands behind the X of one, round the end, comes to 0, so that the X itself comes to the end.
    xs = turned_to_zero(one.xs, i + 1, one.xs[i] + 1)
    ohs = turned_to_zero(one.ohs, i + 1, one.xs[i] + 1)
    other_xs = raised(turned_to_zero(other.xs, j, other.ohs[j]), last)
    other_ohs = raised(turned_to_zero(other.ohs, j, other.ohs[j]), last)
    return Grid(xs[:last] + other_xs, ohs + other_ohs[1:])


def twice(rows):
    """The rows of the marks when each column and each row becomes two."""
    doubles = []
    for r in rows:
        doubles.extend([2 * r, 2 * r + 1])
    return doubles


def doubled(grid):
    """The grid of twice the size in which each ring becomes two that run beside each other."""
    return Grid(twice(grid.xs), twice(grid.ohs))
