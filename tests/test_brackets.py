"""[18]: the bracket, and what is made of it so that it stays."""

import unittest
from itertools import product

from gridknot.brackets import bracket, kept_bracket
from gridknot.grids import Grid, o_column, x_column
from gridknot.making import beside, doubled, mirrored, summed, tipped, turned_about, upside_down
from gridknot.moves import moved, moves_open
from gridknot.series import is_series, series_at, series_plus, series_times
from gridknot.strands import crossings, rings, twist
from support import (
    CHAIN, EIGHT_KNOT, FIVE, FIVE_ONE, FIVE_TWO, KNOWN, LEAST, LINKED, STEPS, TREFOIL, TWO_RINGS, WHITEHEAD, all_grids,
    grow_moves, is_tuple_throughout, some_grids,
)

CURVE = ((-2, -1), (2, -1))
THREE_APART = ((0, 1, 2, 3, 4, 5), (1, 0, 3, 2, 5, 4))


class Pieces:
    """The pieces of the edges between crossings and marks, joined one after another."""

    def __init__(self, grid):
        size = len(grid)
        self.upright = [[r for i, r in crossings(grid) if i == k] for k in range(size)]
        self.level = [[i for i, r in crossings(grid) if r == k] for k in range(size)]
        self.heads = {("c", i, k): ("c", i, k) for i in range(size) for k in range(len(self.upright[i]) + 1)}
        self.heads.update({("r", r, k): ("r", r, k) for r in range(size) for k in range(len(self.level[r]) + 1)})
        for i in range(size):
            for r in (grid.xs[i], grid.ohs[i]):
                k = 0 if r == min(grid.xs[i], grid.ohs[i]) else len(self.upright[i])
                m = 0 if i == min(x_column(grid, r), o_column(grid, r)) else len(self.level[r])
                self.join(("c", i, k), ("r", r, m))

    def head(self, piece):
        while self.heads[piece] != piece:
            piece = self.heads[piece]
        return piece

    def join(self, one, other):
        self.heads[self.head(one)] = self.head(other)

    def at(self, i, r):
        """The pieces up, right, down and left of the crossing."""
        k, m = self.upright[i].index(r), self.level[r].index(i)
        return ("c", i, k + 1), ("r", r, m + 1), ("c", i, k), ("r", r, m)

    def curves(self):
        return sum(self.head(piece) == piece for piece in self.heads)


def due_bracket(grid):
    """The sum over all choices of manners, in the document's words."""
    sums = {}
    for manners in product((0, 1), repeat=len(crossings(grid))):
        pieces = Pieces(grid)
        for (i, r), manner in zip(crossings(grid), manners):
            up, right, down, left = pieces.at(i, r)
            pieces.join(up, left if manner else right)
            pieces.join(down, right if manner else left)
        term = ((manners.count(0) - manners.count(1), 1),)
        for _ in range(pieces.curves() - 1):
            term = series_times(term, CURVE)
        for exponent, coefficient in term:
            sums[exponent] = sums.get(exponent, 0) + coefficient
    return tuple(sorted((e, k) for e, k in sums.items() if k))


def inverted(a):
    """The series with each exponent below 0 instead of above and the other way round."""
    return tuple((-e, k) for e, k in a[::-1])


class Known(unittest.TestCase):
    def test_known_brackets(self):
        for pair, due in (
            (LEAST, ((0, 1),)),
            (STEPS, ((0, 1),)),
            (TWO_RINGS, CURVE),
            (THREE_APART, ((-4, 1), (0, 2), (4, 1))),
            (LINKED, ((-4, -1), (4, -1))),
            (TREFOIL, ((-5, -1), (3, -1), (7, 1))),
        ):
            self.assertEqual(bracket(Grid(*pair)), due)

    def test_known_kept_brackets(self):
        for pair, due in (
            (LEAST, ((0, 1),)),
            (STEPS, ((0, 1),)),
            (FIVE, ((0, 1),)),
            (TWO_RINGS, CURVE),
            (LINKED, ((2, -1), (10, -1))),
            (((0, 3, 2, 1), (2, 1, 0, 3)), ((-10, -1), (-2, -1))),
            (TREFOIL, ((4, 1), (12, 1), (16, -1))),
            (EIGHT_KNOT, ((-8, 1), (-4, -1), (0, 1), (4, -1), (8, 1))),
            (FIVE_ONE, ((-28, -1), (-24, 1), (-20, -1), (-16, 1), (-8, 1))),
            (FIVE_TWO, ((4, 1), (8, -1), (12, 2), (16, -1), (20, 1), (24, -1))),
            (WHITEHEAD, ((-6, -1), (-2, 1), (2, -2), (6, 1), (10, -2), (14, 1))),
        ):
            self.assertEqual(kept_bracket(Grid(*pair)), due)


class AllChoices(unittest.TestCase):
    def test_against_the_sum_over_all_choices(self):
        grids = all_grids(2) + all_grids(3) + all_grids(4) + some_grids(5, 40) + some_grids(6, 15)
        for grid in grids + [Grid(*pair) for pair in KNOWN if len(crossings(Grid(*pair))) < 8]:
            self.assertEqual(bracket(grid), due_bracket(grid))

    def test_rings_without_crossings_beside_others(self):
        for one, other in ((LEAST, TREFOIL), (TREFOIL, LEAST), (LINKED, TWO_RINGS), (TWO_RINGS, LINKED)):
            grid = beside(Grid(*one), Grid(*other))
            self.assertEqual(bracket(grid), due_bracket(grid))

    def test_series_come(self):
        for grid in some_grids(7, 20) + some_grids(8, 20):
            for told in (bracket(grid), kept_bracket(grid)):
                self.assertTrue(is_tuple_throughout(told))
                self.assertIs(is_series(told), True)

    def test_twelve_crossings(self):
        met = 0
        for grid in some_grids(8, 400):
            if len(crossings(grid)) == 12:
                met += 1
                due = kept_bracket(grid)
                for move in moves_open(grid):
                    self.assertEqual(kept_bracket(moved(grid, move)), due)
        self.assertGreater(met, 0)


class Kept(unittest.TestCase):
    def test_the_power_by_the_twist(self):
        for grid in some_grids(6, 30) + [Grid(*pair) for pair in KNOWN]:
            t = twist(grid)
            self.assertEqual(kept_bracket(grid), series_times(bracket(grid), ((-3 * t, (-1) ** (t % 2)),)))

    def test_under_all_moves(self):
        met = set()
        for grid in some_grids(5, 15) + some_grids(6, 8) + [Grid(*pair) for pair in KNOWN]:
            due = kept_bracket(grid)
            for move in moves_open(grid) + tuple(grow_moves(len(grid))[::13]):
                self.assertEqual(kept_bracket(moved(grid, move)), due)
                met.add(move[0])
        self.assertEqual(len(met), 8)

    def test_under_each_growing_move(self):
        for pair in (STEPS, TREFOIL, LINKED, TWO_RINGS):
            for move in grow_moves(len(pair[0])):
                self.assertEqual(kept_bracket(moved(Grid(*pair), move)), kept_bracket(Grid(*pair)))

    def test_the_bracket_itself_does_not_stay(self):
        grid = Grid(*STEPS)
        told = {bracket(moved(grid, move)) for move in grow_moves(3)}
        self.assertGreater(len(told), 1)

    def test_of_grids_made_of_one(self):
        for grid in some_grids(6, 12) + some_grids(7, 6) + [Grid(*pair) for pair in KNOWN]:
            for make in (tipped, turned_about, upside_down):
                self.assertEqual(kept_bracket(make(grid)), kept_bracket(grid))
            self.assertEqual(kept_bracket(mirrored(grid)), inverted(kept_bracket(grid)))
            self.assertEqual(bracket(mirrored(grid)), inverted(bracket(grid)))

    def test_the_mirror_image_of_a_trefoil_is_another_knot(self):
        grid = Grid(*TREFOIL)
        self.assertEqual(kept_bracket(mirrored(grid)), ((-16, -1), (-12, 1), (-4, 1)))
        self.assertEqual(kept_bracket(mirrored(Grid(*EIGHT_KNOT))), kept_bracket(Grid(*EIGHT_KNOT)))

    def test_of_links_apart_it_is_the_product_times_that_of_one_curve_more(self):
        for one, other in zip(some_grids(5, 8) + [Grid(*TREFOIL)], some_grids(6, 8) + [Grid(*TWO_RINGS)]):
            due = series_times(series_times(kept_bracket(one), kept_bracket(other)), CURVE)
            self.assertEqual(kept_bracket(beside(one, other)), due)
            self.assertEqual(kept_bracket(beside(other, one)), due)

    def test_of_sums_it_is_the_product(self):
        for one, other in zip(some_grids(5, 8) + [Grid(*TREFOIL)], some_grids(6, 8) + [Grid(*LINKED)]):
            due = series_times(kept_bracket(one), kept_bracket(other))
            for i in (0, 2, 4):
                for j in (0, 3):
                    self.assertEqual(kept_bracket(summed(one, i, other, j)), due)

    def test_of_a_doubled_ring(self):
        self.assertEqual(kept_bracket(doubled(Grid(*LEAST))), ((2, -1), (10, -1)))
        self.assertEqual(bracket(doubled(Grid(*STEPS))), due_bracket(doubled(Grid(*STEPS))))

    def test_at_one_each_ring_but_the_first_gives_minus_two(self):
        for grid in some_grids(6, 20) + some_grids(8, 10):
            self.assertEqual(series_at(kept_bracket(grid), 1, 1), ((-2) ** (len(rings(grid)) - 1), 1))

    def test_changing_a_crossing(self):
        # A ** 4 times the one less A ** -4 times the other is what the two rings of the third give (the skein).
        plus, minus = Grid((0, 3, 2, 1), (2, 1, 0, 3)), Grid(*LINKED)
        apart = Grid(*TWO_RINGS)
        less = series_plus(
            series_times(((4, 1),), kept_bracket(plus)), series_times(((-4, -1),), kept_bracket(apart))
        )
        self.assertEqual(less, series_times(((-2, 1), (2, -1)), ((0, 1),)))
        self.assertNotEqual(kept_bracket(plus), kept_bracket(minus))


class Basics(unittest.TestCase):
    def test_by_name_and_again(self):
        one, other = Grid(*TREFOIL), Grid(*CHAIN)
        first = (bracket(grid=one), kept_bracket(grid=one))
        between = (bracket(other), kept_bracket(other))
        self.assertEqual((bracket(Grid(list(TREFOIL[0]), list(TREFOIL[1]))), kept_bracket(one)), first)
        self.assertEqual((bracket(other), kept_bracket(other)), between)
        self.assertEqual([one.pair(), other.pair()], [TREFOIL, CHAIN])


if __name__ == "__main__":
    unittest.main()
