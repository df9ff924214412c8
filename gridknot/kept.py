"""The numbers and series that stay under all moves, each asked for by a question."""

from gridknot.alexander import alexander
from gridknot.brackets import kept_bracket
from gridknot.colours import colourings, is_small_prime
from gridknot.kinds import is_tuple_of
from gridknot.strands import linking_row, rings
from gridknot.ways import is_number_of_points, ways


def asks_for_kept(value):
    """Whether the value, which may be any, is a question for something that stays."""
    if is_tuple_of(value, 1):
        return value[0] in ("rings", "linkings", "alexander", "bracket")
    if not is_tuple_of(value, 2):
        return False
    word, number = value
    return (word == "colours" and is_small_prime(number)) or (word == "ways" and is_number_of_points(number))


def kept_of(grid, question):
    """What the question asks of the grid."""
    word = question[0]
    if word == "rings":
        return len(rings(grid))
    if word == "linkings":
        return linking_row(grid)
    if word == "colours":
        return colourings(grid, question[1])
    if word == "ways":
        return ways(grid, question[1])
    if word == "alexander":
        return alexander(grid)
    return kept_bracket(grid)
