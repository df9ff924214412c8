"""The bracket of a grid, and the series made of it that stays under all moves."""

from gridknot.series import series_plus, series_times
from gridknot.strands import between, crossings, rings, twist

# The ends of the crossing numbered k are 4 k to 4 k + 3: up, right, down, left. A manner joins two pairs of them.
MANNERS = (((0, 1), (2, 3)), ((0, 3), (2, 1)))
# What a crossing of each manner gives, and each closed curve but one.
WEIGHTS = (((1, 1),), ((-1, 1),))
CURVE = ((-2, -1), (2, -1))


def upright_passes(grid, i, numbers):
    """For each crossing of the upright edge of column i, from X to O, the ends by which it comes and goes."""
    x = grid.xs[i]
    o = grid.ohs[i]
    come, go = (2, 0) if x < o else (0, 2)
    firsts = [4 * numbers[(i, r)] for r in between(x, o) if (i, r) in numbers]
    return [(first + come, first + go) for first in firsts]


def level_passes(grid, r, numbers):
    """For each crossing of the level edge of row r, from O to X, the ends by which it comes and goes."""
    o = grid.ohs.index(r)
    x = grid.xs.index(r)
    come, go = (3, 1) if o < x else (1, 3)
    firsts = [4 * numbers[(i, r)] for i in between(o, x) if (i, r) in numbers]
    return [(first + come, first + go) for first in firsts]


def ring_passes(grid, ring, numbers):
    """The ends by which the ring comes to its crossings and goes on, from its first column on."""
    found = []
    for i in ring:
        found.extend(upright_passes(grid, i, numbers))
        found.extend(level_passes(grid, grid.ohs[i], numbers))
    return found


def strands(grid):
    """For each end that to which its strand goes, and how many rings meet no crossing."""
    numbers = {crossing: k for k, crossing in enumerate(crossings(grid))}
    mates = [0] * (4 * len(numbers))
    free = 0
    for ring in rings(grid):
        passes = ring_passes(grid, ring, numbers)
        if not passes:
            free = free + 1
        for before, behind in zip(passes, passes[1:] + passes[:1]):
            mates[before[1]] = behind[0]
            mates[behind[0]] = before[1]
    return (mates, free)


def cut(mates):
    """The strands with that of end 0 cut: its two halves end in two new ends."""
    new = len(mates)
    halves = mates + [0, mates[0]]
    halves[mates[0]] = new + 1
    halves[0] = new
    return halves


def joined(mates, first, manner):
    """The strands when the crossing whose ends begin at first is joined anew, and how many curves that closes."""
    left = list(mates)
    closed = 0
    for one, other in MANNERS[manner]:
        ahead = left[first + one]
        behind = left[first + other]
        if ahead == first + other:
            closed = closed + 1
        else:
            left[ahead] = behind
            left[behind] = ahead
        # Ends that are done with are all the same, so that choices which leave the same strands fall together.
        left[first + one] = -1
        left[first + other] = -1
    return (tuple(left), closed)


def times_curves(told, many):
    """The series times what that many closed curves give."""
    found = told
    for _ in range(many):
        found = series_times(found, CURVE)
    return found


def crossing_joined(sums, first):
    """For each way the strands can run, the sum over the choices so far, when one crossing more is joined anew."""
    found = {}
    for mates, told in sums.items():
        for manner, weight in enumerate(WEIGHTS):
            left, closed = joined(mates, first, manner)
            term = times_curves(series_times(told, weight), closed)
            found[left] = series_plus(found.get(left, ()), term)
    return found


def bracket(grid):
    """The sum over all choices of manners, a series in A."""
    mates, free = strands(grid)
    if len(mates) == 0:
        return times_curves(((0, 1),), free - 1)
    # A cut strand never closes, so the curve it belongs to is the one that is not counted.
    sums = {tuple(cut(mates)): ((0, 1),)}
    for first in range(0, len(mates), 4):
        sums = crossing_joined(sums, first)
    return times_curves(list(sums.values())[0], free)


def kept_bracket(grid):
    """The bracket times what makes it stay under all moves."""
    turns = twist(grid)
    sign = 1 if turns % 2 == 0 else -1
    return series_times(bracket(grid), ((-3 * turns, sign),))
