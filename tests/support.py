"""What several tests need: grids, values that are no numbers, and values with one part changed."""

from itertools import permutations
from random import Random

from gridknot.errors import KnotError
from gridknot.grids import Grid

LEAST = ((0, 1), (1, 0))
STEPS = ((0, 1, 2), (1, 2, 0))
TWO_RINGS = ((0, 1, 2, 3), (1, 0, 3, 2))
# The least grid, doubled: two rings that are linked.
LINKED = ((0, 1, 2, 3), (2, 3, 0, 1))
FIVE = ((1, 3, 0, 4, 2), (3, 0, 4, 2, 1))
TREFOIL = ((0, 1, 2, 3, 4), (2, 3, 4, 0, 1))

# A knot of four crossings, two of five, and two rings that are linked though their linking number is 0.
EIGHT_KNOT = ((0, 4, 3, 1, 2, 5), (3, 2, 5, 4, 0, 1))
FIVE_ONE = ((0, 6, 4, 5, 3, 2, 1), (4, 3, 1, 2, 0, 6, 5))
FIVE_TWO = ((1, 2, 4, 3, 5, 0, 6), (3, 5, 6, 0, 1, 4, 2))
WHITEHEAD = ((0, 1, 2, 6, 5, 3, 4), (3, 5, 0, 4, 1, 6, 2))
# Three rings, each a square: the second is linked with both others, those not with one another.
CHAIN = ((0, 1, 2, 3, 4, 5), (2, 4, 0, 5, 1, 3))
KNOWN = (
    LEAST, STEPS, TWO_RINGS, LINKED, FIVE, TREFOIL, CHAIN, EIGHT_KNOT, FIVE_ONE, FIVE_TWO, WHITEHEAD,
    ((3, 1, 4, 0, 5, 7, 2, 6), (7, 6, 5, 4, 3, 2, 1, 0)),
)

# None of them is an integer; the bools and the tuples are equal to nothing that may be passed.
NO_INTEGERS = (True, False, None, "0", "", "X", (), (0,), [], [1], ((0, 1), (1, 0)))
# What stands in no claim and no paper.
BARRED = (True, False, None, [], [0], Grid(*LEAST), KnotError())
SMALL_PRIMES = (2, 3, 5, 7, 11, 13)


def all_pairs(size):
    """The pairs of all grids of that size."""
    rows = list(permutations(range(size)))
    return [
        (xs, ohs)
        for xs in rows
        for ohs in rows
        if all(x != o for x, o in zip(xs, ohs))
    ]


def all_grids(size):
    return [Grid(xs, ohs) for xs, ohs in all_pairs(size)]


def is_tuple_throughout(value):
    """Whether value is made of tuples and plain integers alone."""
    if type(value) is tuple:
        return all(is_tuple_throughout(part) for part in value)
    return type(value) is int


def some_grids(size, many):
    """So many grids of that size, the same ones each time."""
    shuffler = Random(1000 * size + many)
    found = []
    while len(found) < many:
        xs, ohs = list(range(size)), list(range(size))
        shuffler.shuffle(xs)
        shuffler.shuffle(ohs)
        if all(x != o for x, o in zip(xs, ohs)):
            found.append(Grid(xs, ohs))
    return found


def grow_moves(size):
    """All moves that make a grid of that size grow."""
    return [
        (word, k, r, way)
        for word in ("grow column", "grow row")
        for k in range(size + 1)
        for r in range(size)
        for way in ("up", "down")
    ]


def changed_parts(value, put_in):
    """The value with one part, at any depth and itself too, replaced by each member of put_in."""
    yield from put_in
    if isinstance(value, tuple):
        for k, part in enumerate(value):
            for changed in changed_parts(part, put_in):
                yield value[:k] + (changed,) + value[k + 1:]


def as_lists(value):
    """The value with one tuple in it, at any depth, as a list instead."""
    if isinstance(value, tuple):
        yield list(value)
        for k, part in enumerate(value):
            for changed in as_lists(part):
                yield value[:k] + (changed,) + value[k + 1:]


def as_bools(value):
    """The value with one 0 or 1 in it, at any depth, as a bool instead."""
    if isinstance(value, tuple):
        for k, part in enumerate(value):
            for changed in as_bools(part):
                yield value[:k] + (changed,) + value[k + 1:]
    elif type(value) is int and value in (0, 1):
        yield bool(value)


def of_other_length(value):
    """The value with one part of a tuple in it, at any depth, left out or put twice."""
    if isinstance(value, tuple):
        for k, part in enumerate(value):
            yield value[:k] + value[k + 1:]
            yield value[:k] + (part, part) + value[k + 1:]
            for changed in of_other_length(part):
                yield value[:k] + (changed,) + value[k + 1:]


def spoiled(value):
    """The value with one part made something that stands in no claim and no paper."""
    yield from changed_parts(value, BARRED)
    yield from as_lists(value)
    yield from as_bools(value)
