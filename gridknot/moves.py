"""The moves: which can be done, what each makes of a grid, and what leads back."""

from gridknot.errors import InvalidMove
from gridknot.grids import Grid, columns_by_row
from gridknot.kinds import is_number_below

# Each move of rows does what this move of columns does to the grid with columns and rows exchanged.
ROW_WORDS = {
    "turn rows": "turn columns",
    "swap rows": "swap columns",
    "shrink row": "shrink column",
    "grow row": "grow column",
}


def transposed(pair):
    """The pair (xs, ohs) of the grid with columns and rows exchanged; it need not tell the same link."""
    xs, ohs = pair
    return (tuple(columns_by_row(xs)), tuple(columns_by_row(ohs)))


def columns_turned(pair):
    """The pair with column 0 at the right end."""
    xs, ohs = pair
    return (xs[1:] + xs[:1], ohs[1:] + ohs[:1])


def can_swap(pair, i):
    """Whether column i and the one behind it can be exchanged."""
    xs, ohs = pair
    if i + 1 >= len(xs):
        return False
    low = min(xs[i], ohs[i])
    high = max(xs[i], ohs[i])
    x = xs[i + 1]
    o = ohs[i + 1]
    if x == low or x == high or o == low or o == high:
        return False
    return (low < x < high) == (low < o < high)


def swapped(rows, i):
    """The rows of columns i and i + 1 exchanged."""
    return rows[:i] + (rows[i + 1], rows[i]) + rows[i + 2:]


def can_shrink(pair, i):
    """Whether column i can be taken away."""
    xs, ohs = pair
    return abs(xs[i] - ohs[i]) == 1 and ohs.index(xs[i]) != xs.index(ohs[i])


def shrunk(rows, i, low):
    """The rows without that of column i, the rows low and low + 1 being one."""
    return tuple([r - 1 if r > low else r for r in rows[:i] + rows[i + 1:]])


def grown(rows, i, r, new, elder):
    """The rows with a new column i that has its mark in row new; the mark of the row r, now two, goes to row elder."""
    wider = [k + 1 if k > r else k for k in rows]
    wider[rows.index(r)] = elder
    return tuple(wider[:i] + [new] + wider[i:])


def column_grown(pair, i, r, word):
    """The pair that comes of growing a column i in row r."""
    xs, ohs = pair
    if word == "up":
        return (grown(xs, i, r, r, r + 1), grown(ohs, i, r, r + 1, r))
    return (grown(xs, i, r, r + 1, r), grown(ohs, i, r, r, r + 1))


def can_grow(size, parts):
    """Whether a grid of that size can grow a column with these parts of the move behind its word."""
    if len(parts) != 3 or not is_number_below(parts[0], size + 1) or not is_number_below(parts[1], size):
        return False
    return parts[2] in ("up", "down")


def columns_moved(pair, word, parts):
    """The pair that comes of the move of columns with that word and these parts; None if it cannot be done."""
    xs, ohs = pair
    if word == "turn columns":
        return columns_turned(pair) if len(parts) == 0 else None
    if word == "grow column":
        return column_grown(pair, parts[0], parts[1], parts[2]) if can_grow(len(xs), parts) else None
    if len(parts) != 1 or not is_number_below(parts[0], len(xs)):
        return None
    i = parts[0]
    if word == "swap columns" and can_swap(pair, i):
        return (swapped(xs, i), swapped(ohs, i))
    if word == "shrink column" and can_shrink(pair, i):
        low = min(xs[i], ohs[i])
        return (shrunk(xs, i, low), shrunk(ohs, i, low))
    return None


def pair_moved(pair, move):
    """The pair that comes of the move, which may be any value; None if it cannot be done."""
    if not isinstance(move, tuple) or len(move) == 0 or not isinstance(move[0], str):
        return None
    if move[0] not in ROW_WORDS:
        return columns_moved(pair, move[0], move[1:])
    end = columns_moved(transposed(pair), ROW_WORDS[move[0]], move[1:])
    if end is None:
        return None
    return transposed(end)


def pair_led(pair, moves):
    """The pair that the moves, which may be any values, lead to; None if one of them cannot be done."""
    end = pair
    for move in moves:
        end = pair_moved(end, move)
        if end is None:
            return None
    return end


def pair_moves(pair):
    """All moves that never grow and can be done, in their order."""
    size = len(pair[0])
    across = transposed(pair)
    found = [("turn columns",), ("turn rows",)]
    found.extend([("swap columns", i) for i in range(size) if can_swap(pair, i)])
    found.extend([("swap rows", r) for r in range(size) if can_swap(across, r)])
    found.extend([("shrink column", i) for i in range(size) if can_shrink(pair, i)])
    found.extend([("shrink row", r) for r in range(size) if can_shrink(across, r)])
    return found


def moved(grid, move):
    """The grid that comes of the move."""
    end = pair_moved(grid.pair(), move)
    if end is None:
        raise InvalidMove(move)
    return Grid(end[0], end[1])


def moves_open(grid):
    """All moves that never grow and can be done on the grid, in their order."""
    return tuple(pair_moves(grid.pair()))


def led(grid, moves):
    """The grid when all the moves are done, from the first on."""
    end = grid
    for move in moves:
        end = moved(end, move)
    return end


def regrown(pair, word, i):
    """The move with that word that grows column i of the pair again when it is shrunk."""
    xs, ohs = pair
    return (word, i, min(xs[i], ohs[i]), "up" if xs[i] < ohs[i] else "down")


def way_back(grid, move):
    """A row of moves that leads from moved(grid, move) to grid."""
    if pair_moved(grid.pair(), move) is None:
        raise InvalidMove(move)
    word = move[0]
    if word == "turn columns" or word == "turn rows":
        return (move,) * (len(grid) - 1)
    if word == "swap columns" or word == "swap rows":
        return (move,)
    if word == "grow column":
        return (("shrink column", move[1]),)
    if word == "grow row":
        return (("shrink row", move[1]),)
    if word == "shrink column":
        return (regrown(grid.pair(), "grow column", move[1]),)
    return (regrown(transposed(grid.pair()), "grow row", move[1]),)
