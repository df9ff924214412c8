"""The rings of a grid, the crossings of their edges, and how the rings are linked."""

from gridknot.errors import InvalidNumber, Undefined
from gridknot.grids import columns_by_row
from gridknot.kinds import is_number_below


def ring_from(grid, first):
    """The columns of the ring of column first, in the direction of the ring."""
    ring = [first]
    i = grid.xs.index(grid.ohs[first])
    while i != first:
        ring.append(i)
        i = grid.xs.index(grid.ohs[i])
    return tuple(ring)


def rings(grid):
    """For each ring its columns, from the least one on."""
    found = []
    met = [False] * len(grid)
    for first in range(len(grid)):
        if not met[first]:
            ring = ring_from(grid, first)
            found.append(ring)
            for i in ring:
                met[i] = True
    return tuple(found)


def ring_numbers(grid):
    """For each column the number of its ring."""
    numbers = [0] * len(grid)
    for number, ring in enumerate(rings(grid)):
        for i in ring:
            numbers[i] = number
    return numbers


def ring_of(grid, i):
    """The number of the ring of column i."""
    if not is_number_below(i, len(grid)):
        raise InvalidNumber(i)
    return ring_numbers(grid)[i]


def is_between(value, one, other):
    """Whether value is strictly between the two, whichever is less."""
    return one < value < other or other < value < one


def between(one, other):
    """The numbers strictly between the two, in their order from one to other."""
    if one < other:
        return list(range(one + 1, other))
    return list(range(one - 1, other, -1))


def courses(grid):
    """For each row the column of its O, the columns that cross it in their order from there, and that of its X."""
    x_columns = columns_by_row(grid.xs)
    o_columns = columns_by_row(grid.ohs)
    found = []
    for r, (a, b) in enumerate(zip(o_columns, x_columns)):
        found.append((a, [c for c in between(a, b) if is_between(r, grid.xs[c], grid.ohs[c])], b))
    return found


def crossings(grid):
    """The pairs (i, r) of a column and a row that cross, by i, then r."""
    size = len(grid)
    x_columns = columns_by_row(grid.xs)
    o_columns = columns_by_row(grid.ohs)
    found = []
    for i in range(size):
        for r in range(size):
            if is_between(r, grid.xs[i], grid.ohs[i]) and is_between(i, x_columns[r], o_columns[r]):
                found.append((i, r))
    return tuple(found)


def sign_of(grid, i, r):
    """The sign at the crossing of column i and row r."""
    goes_up = grid.xs[i] < grid.ohs[i]
    goes_right = grid.ohs.index(r) < grid.xs.index(r)
    if goes_up == goes_right:
        return -1
    return 1


def sign_at(grid, i, r):
    """The sign at the crossing of column i and row r, which may be any values."""
    size = len(grid)
    # True == 1, so a pair with a bool would be found among the crossings.
    if not is_number_below(i, size) or not is_number_below(r, size) or (i, r) not in crossings(grid):
        raise Undefined("crossing")
    return sign_of(grid, i, r)


def twist(grid):
    """The sum of all signs."""
    return sum([sign_of(grid, i, r) for i, r in crossings(grid)])


def linkings(grid):
    """For each ring a tuple with its linking number with each ring, 0 with itself."""
    numbers = ring_numbers(grid)
    many = len(rings(grid))
    sums = [[0] * many for k in range(many)]
    for i, r in crossings(grid):
        upper = numbers[i]
        lower = numbers[grid.xs.index(r)]
        if upper != lower:
            sums[upper][lower] += sign_of(grid, i, r)
            sums[lower][upper] += sign_of(grid, i, r)
    return tuple([tuple([total // 2 for total in row]) for row in sums])


def linking_row(grid):
    """The linking numbers of all two rings, each two once, sorted."""
    told = linkings(grid)
    return tuple(sorted([told[a][b] for b in range(len(told)) for a in range(b)]))
