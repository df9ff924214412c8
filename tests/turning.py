"""What the tests of families and of their papers need, told in the document's words alone: turns, places, families."""

from functools import lru_cache

from gridknot.grids import Grid
from gridknot.moves import moved, moves_open
from support import all_pairs

COLUMNS, ROWS = ("turn columns",), ("turn rows",)
NEVER_GROW = ("turn columns", "turn rows", "swap columns", "swap rows", "shrink column", "shrink row")


def all_turns(pair):
    """The pairs of the n * n turns, by doing the turns one after another."""
    found, grid = [], Grid(*pair)
    for _ in range(len(grid)):
        for _ in range(len(grid)):
            found.append(grid.pair())
            grid = moved(grid, ROWS)
        grid = moved(grid, COLUMNS)
    return found


@lru_cache(maxsize=None)
def due_place(pair):
    return min(all_turns(pair))


def by_size(place):
    return (len(place[0]), place)


def in_order(places):
    return tuple(sorted(set(places), key=by_size))


@lru_cache(maxsize=None)
def due_family(pair):
    """The places of all grids that come of the pair, by doing every move that never grows on every grid."""
    met, waiting = {pair}, [pair]
    while waiting:
        grid = Grid(*waiting.pop())
        for move in moves_open(grid):
            end = moved(grid, move).pair()
            if end not in met:
                met.add(end)
                waiting.append(end)
    return in_order(place for place in met if due_place(place) == place)


@lru_cache(maxsize=None)
def all_places(size):
    return sorted({due_place(pair) for pair in all_pairs(size) if pair[0][0] == 0})


def due_parted_at(pair):
    """The numbers k of the document: columns 0 to k - 1 have all their marks in the rows 0 to k - 1."""
    xs, ohs = pair
    return tuple(
        k for k in range(1, len(xs)) if all(xs[i] in range(k) and ohs[i] in range(k) for i in range(k))
    )


def is_due_parted(pair):
    return any(due_parted_at(turn) for turn in all_turns(pair))


def is_closed(places):
    """Whether the places are closed in the document's words: on each, behind a turn of columns, behind one of rows."""
    for place in places:
        grid = Grid(*place)
        for base in (grid, moved(grid, COLUMNS), moved(grid, ROWS)):
            for move in moves_open(base):
                if move not in (COLUMNS, ROWS) and due_place(moved(base, move).pair()) not in places:
                    return False
    return True


def grown_by_one(places):
    """The tuples of places in their order that come of these and one place more, of at most their greatest size."""
    for size in range(3, 1 + max(len(place[0]) for place in places)):
        for place in all_places(size) if size < 6 else []:
            if place not in places:
                yield in_order(places + (place,))


def spoiled_families(places):
    """Tuples that are not in the form of a closed family, made of one in which no place can be missed."""
    for k, place in enumerate(places):
        yield places[:k] + places[k + 1:]
        yield places[:k] + (place, place) + places[k + 1:]
        yield places[:k] + (place[::-1],) + places[k + 1:]
        yield places[:k] + (place + place,) + places[k + 1:]
        for turn in all_turns(place):
            if turn != place:
                yield places[:k] + (turn,) + places[k + 1:]
                yield in_order(places[:k] + (turn,) + places[k + 1:])
                yield in_order(places + (turn,))
    for k in range(len(places) - 1):
        yield places[:k] + (places[k + 1], places[k]) + places[k + 2:]
    if len(places) > 1:
        yield places[::-1]
