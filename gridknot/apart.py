"""Falling apart: whether a sphere can be had about some of a link's rings, and the papers that show either."""

from gridknot.errors import Undefined
from gridknot.families import family, is_family_without, way_to
from gridknot.kinds import is_number_below, is_plain, is_tuple_of
from gridknot.moves import pair_led
from gridknot.strands import linkings, rings
from gridknot.turns import is_parted, parted_turn, partings, turned, turning


def linked_pairs(grid):
    """The pairs (a, b) of rings, a less than b, whose linking number is not 0."""
    numbers = linkings(grid)
    return tuple([(a, b) for b in range(len(numbers)) for a in range(b) if numbers[a][b] != 0])


def join_all(many, pairs):
    """Whether each of so many rings can be come to from ring 0 along the pairs, either way."""
    met = [False] * many
    met[0] = True
    # Each round that is not the last one meets a ring more.
    for _ in range(many):
        for a, b in pairs:
            if met[a] or met[b]:
                met[a] = True
                met[b] = True
    return all(met)


def way_apart(grid):
    """The paper of moves that lead to a parted grid, and the number at which it is parted; None without one."""
    way = way_to(grid.pair(), is_parted)
    if way is None:
        return None
    end, moves = way
    i, r = parted_turn(end)
    return (moves + turning(i, r), partings(turned(end, i, r))[0])


def apart_found(grid):
    """The true claim about the rings of the grid, and a paper of it."""
    many = len(rings(grid))
    if many == 1:
        raise Undefined("rings")
    pairs = linked_pairs(grid)
    if join_all(many, pairs):
        return (("together",), ("linked", pairs))
    way = way_apart(grid)
    if way is not None:
        return (("apart",), way)
    return (("together",), ("family", family(grid)))


def apart_claim(grid):
    """The true one of the claims ("apart",) and ("together",)."""
    return apart_found(grid)[0]


def apart_paper(grid):
    """A paper of the true claim."""
    return apart_found(grid)[1]


def leads_apart(grid, value):
    """Whether the value is a pair of a row of moves and a number at which the grid that they lead to is parted."""
    if not is_tuple_of(value, 2) or not isinstance(value[0], tuple):
        return False
    end = pair_led(grid.pair(), value[0])
    return end is not None and value[1] in partings(end)


def is_linked_pair(numbers, value):
    """Whether the value is a pair (a, b) of rings, a less than b, whose linking number is not 0."""
    if not is_tuple_of(value, 2) or not is_number_below(value[1], len(numbers)):
        return False
    return is_number_below(value[0], value[1]) and numbers[value[0]][value[1]] != 0


def are_linked(grid, value):
    """Whether the value is a tuple of linked pairs that join all rings."""
    numbers = linkings(grid)
    if not isinstance(value, tuple) or not all([is_linked_pair(numbers, pair) for pair in value]):
        return False
    return join_all(len(numbers), value)


def shows_together(grid, value):
    """Whether the value, made of tuples, integers and words, is a paper of the claim that the link holds together."""
    if not is_tuple_of(value, 2):
        return False
    if value[0] == "family":
        return is_family_without(grid.pair(), value[1], is_parted)
    return value[0] == "linked" and are_linked(grid, value[1])


def apart_holds(grid, claim, paper):
    """Whether the paper shows the claim, one of ("apart",) and ("together",), about the rings of the grid."""
    if not is_plain(claim) or not is_plain(paper) or len(rings(grid)) == 1:
        return False
    if claim == ("apart",):
        return leads_apart(grid, paper)
    return claim == ("together",) and shows_together(grid, paper)
