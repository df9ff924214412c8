"""The claim that two grids tell one link, and the search for the moves that show it."""

from gridknot.errors import InvalidNumber
from gridknot.grids import makes_grid
from gridknot.kinds import is_number_below, is_plain, is_tuple_of
from gridknot.moves import pair_led, pair_moved, pair_moves

MOST_MOVES = 4


def is_alike_claim(value):
    """Whether the value, made of tuples, integers and words, has the form of the claim."""
    return is_tuple_of(value, 3) and value[0] == "alike" and makes_grid(value[1], value[2])


def alike_holds(grid, claim, paper):
    """Whether the paper is a row of moves from the grid to the one of the claim."""
    if not is_plain(claim) or not is_plain(paper):
        return False
    if not is_alike_claim(claim) or not isinstance(paper, tuple):
        return False
    return pair_led(grid.pair(), paper) == (claim[1], claim[2])


def next_level(level, met, size, left):
    """The pairs one move behind those of level, each with its first row of moves; they are new and are added to met.

    Left out are those that left moves, each of which takes away one column at most, cannot bring to that size.
    """
    found = {}
    for pair, moves in level.items():
        for move in pair_moves(pair):
            end = pair_moved(pair, move)
            if end not in met and size <= len(end[0]) <= size + left:
                met[end] = True
                found[end] = moves + (move,)
    return found


def search_alike(grid, other, depth):
    """The first of the rows of fewest moves, depth at most, that never grow and lead to other; None without one."""
    if not is_number_below(depth, MOST_MOVES + 1):
        raise InvalidNumber(depth)
    goal = other.pair()
    level = {grid.pair(): ()}
    met = {grid.pair(): True}
    # Each level holds its pairs in the order of their rows, so the row by which a pair is met first is its first one.
    for left in reversed(range(depth)):
        if goal in level:
            break
        level = next_level(level, met, len(goal[0]), left)
    return level.get(goal)
