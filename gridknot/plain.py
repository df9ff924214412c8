"""The plain ring: whether a grid of one ring tells it, and the papers that show either."""

from gridknot.alexander import alexander
from gridknot.brackets import kept_bracket
from gridknot.colours import PRIMES, colours_grid, colours_paper, is_small_prime
from gridknot.errors import Undefined
from gridknot.families import family, is_family_without, way_to
from gridknot.kinds import is_plain, is_tuple_of
from gridknot.moves import pair_led
from gridknot.strands import rings
from gridknot.turns import is_least

# What the polynomials are of the plain ring.
ONE = ((0, 1),)


def all_alike(numbers):
    """Whether all members of the tuple are the same number."""
    return numbers.count(numbers[0]) == len(numbers)


def telling_colours(grid):
    """The paper of the first prime that colours the grid otherwise than all alike; None without one."""
    for p in PRIMES:
        basis, _ = colours_paper(grid, p)
        unlike = [row for row in basis if not all_alike(row)]
        if unlike:
            return ("colours", p, unlike[0])
    return None


def telling_number(grid):
    """A paper of the claim that the ring is knotted, by colours or a polynomial; None if they tell nothing."""
    paper = telling_colours(grid)
    if paper is not None:
        return paper
    for word, series in (("alexander", alexander(grid)), ("bracket", kept_bracket(grid))):
        if series != ONE:
            return (word, series)
    return None


def ring_found(grid):
    """The true claim about the ring of the grid, and a paper of it."""
    if len(rings(grid)) > 1:
        raise Undefined("rings")
    paper = telling_number(grid)
    if paper is not None:
        return (("knotted",), paper)
    way = way_to(grid.pair(), is_least)
    if way is not None:
        return (("ring",), way[1])
    return (("knotted",), ("family", family(grid)))


def ring_claim(grid):
    """The true one of the claims ("ring",) and ("knotted",)."""
    return ring_found(grid)[0]


def ring_paper(grid):
    """A paper of the true claim."""
    return ring_found(grid)[1]


def leads_to_least(grid, value):
    """Whether the value is a row of moves that leads from the grid to a least one."""
    if not isinstance(value, tuple):
        return False
    end = pair_led(grid.pair(), value)
    return end is not None and is_least(end)


def colours_tell(grid, p, row):
    """Whether row is a colouring by the prime p that is not all alike."""
    return is_small_prime(p) and colours_grid(grid, p, row) and not all_alike(row)


def shows_knotted(grid, value):
    """Whether the value, made of tuples, integers and words, is a paper of the claim that the ring is knotted."""
    if is_tuple_of(value, 3):
        return value[0] == "colours" and colours_tell(grid, value[1], value[2])
    if not is_tuple_of(value, 2):
        return False
    word, part = value
    if word == "family":
        return is_family_without(grid.pair(), part, is_least)
    if word == "bracket":
        return part != ONE and part == kept_bracket(grid)
    return word == "alexander" and part != ONE and part == alexander(grid)


def ring_holds(grid, claim, paper):
    """Whether the paper shows the claim, one of ("ring",) and ("knotted",), about the one ring of the grid."""
    if not is_plain(claim) or not is_plain(paper) or len(rings(grid)) > 1:
        return False
    if claim == ("ring",):
        return leads_to_least(grid, paper)
    return claim == ("knotted",) and shows_knotted(grid, paper)
