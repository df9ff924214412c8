"""The claim that two grids do not tell one link, and the papers that show it."""

from gridknot.grids import Grid, makes_grid
from gridknot.kept import asks_for_kept, kept_of
from gridknot.kinds import is_plain, is_tuple_of

# All papers that are looked for, in their order. Each is the question for what is unlike.
PAPERS = (
    ("rings",), ("linkings",),
    ("colours", 2), ("colours", 3), ("colours", 5), ("colours", 7), ("colours", 11), ("colours", 13),
    ("alexander",), ("bracket",),
    ("ways", 2), ("ways", 3),
)


def is_unlike_claim(value):
    """Whether the value, made of tuples, integers and words, has the form of the claim."""
    return is_tuple_of(value, 3) and value[0] == "unlike" and makes_grid(value[1], value[2])


def tells_apart(grid, other, paper):
    """Whether what the paper asks of the two grids is unlike."""
    return kept_of(grid, paper) != kept_of(other, paper)


def unlike_paper(grid, other):
    """The first paper by which the two grids do not tell one link; None if there is none."""
    for paper in PAPERS:
        if tells_apart(grid, other, paper):
            return paper
    return None


def unlike_holds(grid, claim, paper):
    """Whether the paper shows that the grid and the one of the claim do not tell one link."""
    if not is_plain(claim) or not is_plain(paper) or not is_unlike_claim(claim) or not asks_for_kept(paper):
        return False
    return tells_apart(grid, Grid(claim[1], claim[2]), paper)
