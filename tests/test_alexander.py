"""[17]: Alexander's polynomial."""

import unittest
from itertools import permutations

from gridknot.alexander import alexander
from gridknot.colours import colourings
from gridknot.grids import Grid, o_column, x_column
from gridknot.making import beside, doubled, mirrored, summed, tipped, turned_about, upside_down
from gridknot.moves import moved, moves_open
from gridknot.series import is_series, series_at, series_plus, series_times
from gridknot.strands import crossings, rings, sign_at
from support import (
    CHAIN, EIGHT_KNOT, FIVE, FIVE_ONE, FIVE_TWO, KNOWN, LEAST, LINKED, SMALL_PRIMES, STEPS, TREFOIL, TWO_RINGS,
    WHITEHEAD, all_grids, grow_moves, is_tuple_throughout, some_grids,
)

THREE_APART = ((0, 1, 2, 3, 4, 5), (1, 0, 3, 2, 5, 4))


def due_line(grid, r):
    """The line of row r, in the document's words."""
    a, b = o_column(grid, r), x_column(grid, r)
    crossed = [i for i, k in crossings(grid) if k == r]
    v = [((0, 1),) if i == a else () for i in range(len(grid))]
    for c in crossed if a < b else crossed[::-1]:
        s = sign_at(grid, c, r)
        v = [series_times(part, ((s, 1),)) for part in v]
        v[c] = series_plus(v[c], series_plus(((0, 1),), ((s, -1),)))
    v[b] = series_plus(v[b], ((0, -1),))
    return v


def due_determinant(rows):
    """The determinant as a sum over all permutations."""
    total = ()
    for places in permutations(range(len(rows))):
        odd = sum(places[j] > places[k] for k in range(len(rows)) for j in range(k)) % 2
        term = ((0, -1 if odd else 1),)
        for row, place in zip(rows, places):
            term = series_times(term, row[place])
        total = series_plus(total, term)
    return total


def normal(a):
    """The series with its least exponent 0 and the coefficient there above 0."""
    if a == ():
        return ()
    return series_times(a, ((-a[0][0], 1 if a[0][1] > 0 else -1),))


def due_alexander(grid):
    lines = [due_line(grid, r) for r in range(len(grid) - 1)]
    return normal(due_determinant([line[:-1] for line in lines]))


class Known(unittest.TestCase):
    def test_known_links(self):
        for pair, due in (
            (LEAST, ((0, 1),)),
            (STEPS, ((0, 1),)),
            (FIVE, ((0, 1),)),
            (TREFOIL, ((0, 1), (1, -1), (2, 1))),
            (EIGHT_KNOT, ((0, 1), (1, -3), (2, 1))),
            (FIVE_ONE, ((0, 1), (1, -1), (2, 1), (3, -1), (4, 1))),
            (FIVE_TWO, ((0, 2), (1, -3), (2, 2))),
            (TWO_RINGS, ()),
            (THREE_APART, ()),
            (LINKED, ((0, 1), (1, -1))),
            (CHAIN, ((0, 1), (1, -2), (2, 1))),
            (WHITEHEAD, ((0, 1), (1, -3), (2, 3), (3, -1))),
        ):
            self.assertEqual(alexander(Grid(*pair)), due)

    def test_the_least_grids(self):
        for grid in all_grids(2):
            self.assertEqual(alexander(grid), ((0, 1),))


class Determinant(unittest.TestCase):
    def test_against_the_sum_over_all_permutations(self):
        grids = all_grids(2) + all_grids(3) + all_grids(4) + some_grids(5, 60) + some_grids(6, 8)
        for grid in grids + [Grid(*TREFOIL), Grid(*EIGHT_KNOT), Grid(*CHAIN)]:
            self.assertEqual(alexander(grid), due_alexander(grid))

    def test_a_series_with_its_first_term_at_zero(self):
        for grid in some_grids(5, 20) + some_grids(7, 20) + some_grids(8, 20):
            told = alexander(grid)
            self.assertTrue(is_tuple_throughout(told))
            self.assertIs(is_series(told), True)
            if told:
                self.assertEqual(told[0][0], 0)
                self.assertGreater(told[0][1], 0)

    def test_a_knot_gives_one_at_one_and_the_same_both_ways(self):
        for grid in some_grids(7, 40) + some_grids(8, 40):
            told = alexander(grid)
            if len(rings(grid)) == 1:
                self.assertIn(series_at(told, 1, 1), ((1, 1), (-1, 1)))
            else:
                self.assertEqual(series_at(told, 1, 1), (0, 1))
            self.assertEqual(normal(tuple((-e, k) for e, k in told[::-1])), told)

    def test_its_value_at_minus_one_tells_by_which_primes_there_are_more_colourings(self):
        for grid in some_grids(8, 40) + [Grid(*pair) for pair in KNOWN]:
            value, _ = series_at(alexander(grid), -1, 1)
            for p in SMALL_PRIMES:
                self.assertIs(colourings(grid, p) > p, value % p == 0)


class Kept(unittest.TestCase):
    def test_under_all_moves(self):
        met = set()
        for grid in some_grids(5, 15) + some_grids(6, 6) + some_grids(8, 3) + [Grid(*pair) for pair in KNOWN]:
            due = alexander(grid)
            for move in moves_open(grid) + tuple(grow_moves(len(grid))[::13]):
                self.assertEqual(alexander(moved(grid, move)), due)
                met.add(move[0])
        self.assertEqual(len(met), 8)

    def test_under_each_growing_move(self):
        for pair in (STEPS, TREFOIL, LINKED, TWO_RINGS):
            for move in grow_moves(len(pair[0])):
                self.assertEqual(alexander(moved(Grid(*pair), move)), alexander(Grid(*pair)))

    def test_of_grids_made_of_one(self):
        for grid in some_grids(6, 12) + some_grids(8, 6) + [Grid(*pair) for pair in KNOWN]:
            for make in (mirrored, tipped, turned_about, upside_down):
                self.assertEqual(alexander(make(grid)), alexander(grid))

    def test_of_links_apart_there_is_none(self):
        for one, other in zip(some_grids(8, 10), some_grids(7, 10)):
            self.assertEqual(alexander(beside(one, other)), ())
            self.assertEqual(alexander(beside(other, one)), ())

    def test_of_sums_it_is_the_product(self):
        for one, other in zip(some_grids(8, 12), some_grids(6, 12)):
            due = normal(series_times(alexander(one), alexander(other)))
            for i, j in ((0, 0), (3, 5), (7, 2)):
                self.assertEqual(alexander(summed(one, i, other, j)), due)
        both = summed(Grid(*TREFOIL), 0, Grid(*EIGHT_KNOT), 0)
        self.assertEqual(alexander(both), ((0, 1), (1, -4), (2, 5), (3, -4), (4, 1)))

    def test_of_doubled_grids(self):
        # The two of a doubled ring bound a band with as many turns as they are linked times.
        self.assertEqual(alexander(doubled(Grid(*LEAST))), ((0, 1), (1, -1)))
        told = alexander(doubled(Grid(*TREFOIL)))
        self.assertEqual(
            told,
            ((0, 1), (1, -1), (4, 1), (5, -1), (6, 1), (7, -1), (8, 1), (9, -1), (10, 1), (11, -1), (14, 1), (15, -1)),
        )
        for grid in some_grids(8, 3):
            told = alexander(doubled(grid))
            for move in moves_open(grid)[:3]:
                # Shrinks change how often the two are linked; turns and swaps do not.
                if not move[0].startswith("shrink"):
                    self.assertEqual(alexander(doubled(moved(grid, move))), told)


class Basics(unittest.TestCase):
    def test_by_name_and_again(self):
        one, other = Grid(*TREFOIL), Grid(*WHITEHEAD)
        first, between = alexander(grid=one), alexander(grid=other)
        self.assertEqual(alexander(Grid(list(TREFOIL[0]), list(TREFOIL[1]))), first)
        self.assertEqual(alexander(other), between)
        self.assertNotEqual(first, between)
        self.assertEqual([one.pair(), other.pair()], [TREFOIL, WHITEHEAD])


if __name__ == "__main__":
    unittest.main()
