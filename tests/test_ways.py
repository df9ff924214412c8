"""[16]: the ways of the group into permutations of at most three points."""

import unittest
from itertools import permutations, product

from gridknot.errors import InvalidNumber
from gridknot.grids import Grid, o_column, x_column
from gridknot.making import beside, mirrored, summed, tipped, turned_about, upside_down
from gridknot.moves import moved, moves_open
from gridknot.strands import crossings, rings, sign_at
from gridknot.ways import ways
from support import (
    CHAIN, EIGHT_KNOT, FIVE, FIVE_ONE, FIVE_TWO, KNOWN, LEAST, LINKED, NO_INTEGERS, STEPS, TREFOIL, TWO_RINGS,
    WHITEHEAD, all_grids, grow_moves, some_grids,
)


def times(f, g):
    """f first, then g."""
    return tuple(g[f[k]] for k in range(len(f)))


def back(x):
    return tuple(sorted(range(len(x)), key=lambda k: x[k]))


def due_row(grid, r, chosen):
    """Whether the permutations obey row r, in the document's words."""
    a, b = o_column(grid, r), x_column(grid, r)
    crossed = [i for i, k in crossings(grid) if k == r]
    v = chosen[a]
    for c in crossed if a < b else crossed[::-1]:
        x = chosen[c]
        before, behind = (back(x), x) if sign_at(grid, c, r) == 1 else (x, back(x))
        v = times(times(before, v), behind)
    return v == chosen[b]


def due_ways(grid, m):
    return sum(
        all(due_row(grid, r, chosen) for r in range(len(grid)))
        for chosen in product(permutations(range(m)), repeat=len(grid))
    )


class Ways(unittest.TestCase):
    def test_known_numbers(self):
        for pair, by_two, by_three in (
            (LEAST, 2, 6), (STEPS, 2, 6), (FIVE, 2, 6), (TREFOIL, 2, 12), (EIGHT_KNOT, 2, 6), (FIVE_ONE, 2, 6),
            (FIVE_TWO, 2, 6), (TWO_RINGS, 4, 36), (LINKED, 4, 18), (CHAIN, 8, 66), (WHITEHEAD, 4, 30),
        ):
            grid = Grid(*pair)
            self.assertEqual(ways(grid, 1), 1)
            self.assertEqual(ways(grid, 2), by_two)
            self.assertEqual(ways(grid, 3), by_three)

    def test_counted_one_by_one(self):
        for grid in all_grids(2) + all_grids(3) + all_grids(4)[::12]:
            for m in (1, 2, 3):
                self.assertEqual(ways(grid, m), due_ways(grid, m))
        for grid in some_grids(5, 4) + [Grid(*TREFOIL)]:
            self.assertEqual(ways(grid, 3), due_ways(grid, 3))
        for grid in some_grids(7, 4):
            self.assertEqual(ways(grid, 2), due_ways(grid, 2))

    def test_linked_rings_go_to_permutations_that_commute(self):
        chosen = list(permutations(range(3)))
        due = sum(times(x, y) == times(y, x) for x in chosen for y in chosen)
        self.assertEqual(ways(Grid(*LINKED), 3), due)

    def test_into_two_points_each_ring_goes_by_itself(self):
        for grid in some_grids(5, 20) + some_grids(6, 10):
            self.assertEqual(ways(grid, 2), 2 ** len(rings(grid)))

    def test_they_stay_under_all_moves(self):
        for grid in some_grids(4, 6) + some_grids(5, 6) + [Grid(*pair) for pair in KNOWN if len(pair[0]) < 6]:
            due = (ways(grid, 2), ways(grid, 3))
            for move in moves_open(grid) + tuple(grow_moves(len(grid))[::11]):
                end = moved(grid, move)
                self.assertEqual((ways(end, 2), ways(end, 3)), due)
            for make in (mirrored, tipped, turned_about, upside_down):
                self.assertEqual((ways(make(grid), 2), ways(make(grid), 3)), due)

    def test_the_largest_grids(self):
        for grid in some_grids(8, 10):
            due = (ways(grid, 2), ways(grid, 3))
            for move in moves_open(grid)[:4]:
                self.assertEqual((ways(moved(grid, move), 2), ways(moved(grid, move), 3)), due)

    def test_grids_beside_each_other_go_each_by_itself(self):
        for one, other in ((TREFOIL, LEAST), (LINKED, STEPS), (TREFOIL, TREFOIL)):
            one, other = Grid(*one), Grid(*other)
            for m in (1, 2, 3):
                self.assertEqual(ways(beside(one, other), m), ways(one, m) * ways(other, m))

    def test_a_sum_with_the_plain_ring_changes_nothing(self):
        for pair in (TREFOIL, LINKED, FIVE):
            for m in (2, 3):
                self.assertEqual(ways(summed(Grid(*pair), 1, Grid(*STEPS), 2), m), ways(Grid(*pair), m))
        # The colourings by 3 are those into the three transpositions, 27; into each other permutation there is one.
        self.assertEqual(ways(summed(Grid(*TREFOIL), 0, Grid(*TREFOIL), 0), 3), 30)


class WrongNumbers(unittest.TestCase):
    def test_what_is_not_one_to_three(self):
        for pair in (LEAST, TREFOIL):
            grid = Grid(*pair)
            for m in (0, -1, -3, 4, 5, 10 ** 30, -10 ** 30, grid) + NO_INTEGERS:
                with self.subTest(m=m):
                    with self.assertRaises(InvalidNumber) as caught:
                        ways(grid, m)
                    self.assertIs(caught.exception.value, m)
            self.assertEqual(grid.pair(), pair)


class Basics(unittest.TestCase):
    def test_by_name_and_again(self):
        one, other = Grid(*TREFOIL), Grid(*LINKED)
        self.assertEqual(ways(m=3, grid=one), 12)
        self.assertEqual(ways(other, 3), 18)
        self.assertEqual(ways(Grid(list(TREFOIL[0]), list(TREFOIL[1])), 3), 12)
        self.assertIs(type(ways(one, 3)), int)
        self.assertEqual([one.pair(), other.pair()], [TREFOIL, LINKED])


if __name__ == "__main__":
    unittest.main()
