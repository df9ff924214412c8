"""The turns of a grid, told of its pair (xs, ohs): which of them comes first, and which are parted."""

from gridknot.grids import makes_grid
from gridknot.kinds import is_tuple_of
from gridknot.making import turned_to_zero


def turned(pair, i, r):
    """The turn of the pair by which column i and row r become 0."""
    return (turned_to_zero(pair[0], i, r), turned_to_zero(pair[1], i, r))


def turning(i, r):
    """The moves by which column i and row r become 0."""
    return (("turn columns",),) * i + (("turn rows",),) * r


def low_turns(pair):
    """The turns of the pair that begin with an X in row 0, one for each column that may become the first one."""
    return [turned(pair, i, r) for i, r in enumerate(pair[0])]


def place_of(pair):
    """The place of the pair: that of its turns that comes first, one with an X in row 0 of its first column."""
    return min(low_turns(pair))


def moves_to_place(pair):
    """The turns that lead from the pair to its place."""
    i = low_turns(pair).index(place_of(pair))
    return turning(i, pair[0][i])


def is_place(value):
    """Whether the value, which may be any, is a place."""
    # Lists may make a grid, too, but they are not equal to the tuples of its place.
    return is_tuple_of(value, 2) and makes_grid(value[0], value[1]) and place_of(value) == value


def is_least(pair):
    """Whether the pair is that of a least grid."""
    return len(pair[0]) == 2


def partings(pair):
    """The numbers at which the pair is parted, rising."""
    xs, ohs = pair
    return tuple([k for k in range(1, len(xs)) if max(xs[:k] + ohs[:k]) < k])


def parted_turn(pair):
    """The column and the row that become 0 in some turn of the pair that is parted at some number; None without one."""
    size = len(pair[0])
    for i in range(size):
        for r in range(size):
            if partings(turned(pair, i, r)):
                return (i, r)
    return None


def is_parted(pair):
    """Whether some turn of the pair is parted at some number."""
    return parted_turn(pair) is not None
