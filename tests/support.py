"""What several tests need: all grids of a size, known grids, and values that are no numbers."""

from itertools import permutations

from gridknot.grids import Grid

LEAST = ((0, 1), (1, 0))
STEPS = ((0, 1, 2), (1, 2, 0))
TWO_RINGS = ((0, 1, 2, 3), (1, 0, 3, 2))
# The least grid, doubled: two rings that are linked.
LINKED = ((0, 1, 2, 3), (2, 3, 0, 1))
FIVE = ((1, 3, 0, 4, 2), (3, 0, 4, 2, 1))
TREFOIL = ((0, 1, 2, 3, 4), (2, 3, 4, 0, 1))

# None of them is an integer; the bools and the tuples are equal to nothing that may be passed.
NO_INTEGERS = (True, False, None, "0", "", "X", (), (0,), [], [1], ((0, 1), (1, 0)))


def all_pairs(size):
    """The pairs of all grids of that size."""
    rows = list(permutations(range(size)))
    return [
        (xs, ohs)
        for xs in rows
        for ohs in rows
        if all(x != o for x, o in zip(xs, ohs))
    ]


def all_grids(size):
    return [Grid(xs, ohs) for xs, ohs in all_pairs(size)]


def is_tuple_throughout(value):
    """Whether value is made of tuples and plain integers alone."""
    if type(value) is tuple:
        return all(is_tuple_throughout(part) for part in value)
    return type(value) is int
