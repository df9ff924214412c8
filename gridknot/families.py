"""The family of a grid: what the moves that never grow lead to, and the ways to there."""

from gridknot.errors import Undefined
from gridknot.grids import Grid, columns_by_row
from gridknot.kinds import rises
from gridknot.moves import pair_led, pair_moves
from gridknot.turns import is_place, moves_to_place, partings, place_of


def first_turn(grid):
    """The turn of the grid whose pair comes first."""
    xs, ohs = place_of(grid.pair())
    return Grid(xs, ohs)


def parted_at(grid):
    """The numbers k for which the columns ahead of k have all their marks in the rows below k."""
    return partings(grid.pair())


def rows_across_the_seam(pair):
    """The rows of a turn and a swap or shrink of what stands at both ends of the pair; some may be done, some not."""
    xs, ohs = pair
    last = len(xs) - 1
    return [
        (("turn columns",), ("swap columns", last - 1)),
        (("turn columns",), ("shrink row", xs[0])),
        (("turn columns",), ("shrink row", ohs[0])),
        (("turn rows",), ("swap rows", last - 1)),
        (("turn rows",), ("shrink column", columns_by_row(xs)[0])),
        (("turn rows",), ("shrink column", columns_by_row(ohs)[0])),
    ]


def steps(pair):
    """The rows of moves that do a swap or shrink of some turn of the pair, each with the pair that comes.

    A swap or shrink that one turn has open the others have open, too, but where the seam parts what it brings together.
    """
    rows = [(move,) for move in pair_moves(pair) if len(move) > 1]
    rows.extend(rows_across_the_seam(pair))
    ends = [(row, pair_led(pair, row)) for row in rows]
    return [(row, end) for row, end in ends if end is not None]


def next_level(level, found):
    """The pairs one step behind those of level that have new places, with the moves to them; found gets them, too."""
    new = []
    for pair, moves in level:
        for row, end in steps(pair):
            place = place_of(end)
            if place not in found:
                found[place] = (end, moves + row)
                new.append(found[place])
    return new


def reached(pair):
    """For each place of the pair's family the turn of it that is reached from the pair, and the moves to there."""
    found = {place_of(pair): (pair, ())}
    level = [(pair, ())]
    while level:
        level = next_level(level, found)
    return found


def by_size(place):
    """What the places of a family are in the order of."""
    return (len(place[0]), place)


def family(grid):
    """The places of all grids that moves which never grow lead to, by size, then by Python's order."""
    return tuple(sorted(list(reached(grid.pair())), key=by_size))


def moves_behind(found, place):
    """The moves to the place itself, found being what reached has told."""
    end, moves = found[place]
    return moves + moves_to_place(end)


def least_size(grid):
    """The smallest size of a grid of the family."""
    return len(family(grid)[0][0])


def smallest(grid):
    """The first place of the smallest size, and a row of moves that never grow that leads to it."""
    found = reached(grid.pair())
    place = sorted(list(found), key=by_size)[0]
    return (place, moves_behind(found, place))


def family_moves(grid, xs, ohs):
    """A row of moves that never grow that leads to the place (xs, ohs) of the family."""
    place = (xs, ohs)
    if not is_place(place):
        raise Undefined("place")
    found = reached(grid.pair())
    if place not in found:
        raise Undefined("place")
    return moves_behind(found, place)


def nearest(pair, is_end):
    """The first pair on the way from the pair that is smaller, or an end, with the moves to it; None without one."""
    found = {place_of(pair): (pair, ())}
    level = [(pair, ())]
    while level:
        for end, moves in level:
            if is_end(end) or len(end[0]) < len(pair[0]):
                return (end, moves)
        level = next_level(level, found)
    return None


def way_to(pair, is_end):
    """The pair of some end that moves which never grow lead to, and the moves to it; None if there is none.

    Ends are the least grids, or the parted ones: what can be led to one of them can still be led there when it has
    become smaller, so that no shrink is ever taken back.
    """
    end = pair
    moves = ()
    while not is_end(end):
        ahead = nearest(end, is_end)
        if ahead is None:
            return None
        end = ahead[0]
        moves = moves + ahead[1]
    return (end, moves)


def is_closed(places):
    """Whether each swap and shrink of a turn of one of the places leads to one of them."""
    met = {place: True for place in places}
    for place in places:
        for _, end in steps(place):
            if place_of(end) not in met:
                return False
    return True


def is_family_without(pair, value, is_end):
    """Whether the value, made of tuples, integers and words, tells a whole family of the pair in which no end is."""
    if not isinstance(value, tuple) or not all([is_place(member) for member in value]):
        return False
    if not rises([by_size(place) for place in value]) or any([is_end(place) for place in value]):
        return False
    return place_of(pair) in value and is_closed(value)
