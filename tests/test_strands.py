"""[6] and [7]: rings, crossings, signs, the twist and linkings."""

import unittest
from itertools import product

from gridknot.errors import InvalidNumber, Undefined
from gridknot.grids import Grid, o_column, x_column
from gridknot.strands import crossings, linkings, ring_of, rings, sign_at, twist
from support import (
    CHAIN, FIVE, LEAST, LINKED, NO_INTEGERS, STEPS, TREFOIL, TWO_RINGS, all_grids, is_tuple_throughout,
)

THREE_APART = ((0, 1, 2, 3, 4, 5), (1, 0, 3, 2, 5, 4))


def columns_turned(grid):
    """The grid whose first column has gone to the right end: it tells the same link."""
    return Grid(grid.xs[1:] + grid.xs[:1], grid.ohs[1:] + grid.ohs[:1])


def rows_turned(grid):
    """The grid whose lowest row has gone to the top: it tells the same link."""
    size = len(grid)
    return Grid([(x - 1) % size for x in grid.xs], [(o - 1) % size for o in grid.ohs])


def sorted_linkings(grid):
    told = linkings(grid)
    return sorted(told[a][b] for a in range(len(told)) for b in range(a))


def on_the_way(grid):
    """For each ring the places (column, row) strictly within its upright edges, and those within its level ones."""
    places = []
    for ring in rings(grid):
        upright = {(i, r) for i in ring for r in strictly_between(grid.xs[i], grid.ohs[i])}
        rows = [grid.ohs[i] for i in ring]
        level = {(i, r) for r in rows for i in strictly_between(o_column(grid, r), x_column(grid, r))}
        places.append((upright, level))
    return places


def strictly_between(one, other):
    return range(min(one, other) + 1, max(one, other))


def due_sign(grid, i, r):
    """The sign by the turn from the upright to the level edge's direction."""
    up = 1 if grid.ohs[i] > grid.xs[i] else -1
    right = 1 if x_column(grid, r) > o_column(grid, r) else -1
    return -up * right


class Rings(unittest.TestCase):
    def test_known_rings(self):
        for pair, due in (
            (LEAST, ((0, 1),)),
            (STEPS, ((0, 1, 2),)),
            (((0, 1, 2), (2, 0, 1)), ((0, 2, 1),)),
            (TWO_RINGS, ((0, 1), (2, 3))),
            (LINKED, ((0, 2), (1, 3))),
            (FIVE, ((0, 1, 2, 3, 4),)),
            (TREFOIL, ((0, 2, 4, 1, 3),)),
            (CHAIN, ((0, 2), (1, 4), (3, 5))),
            (THREE_APART, ((0, 1), (2, 3), (4, 5))),
        ):
            self.assertEqual(rings(Grid(*pair)), due)

    def test_each_column_is_followed_by_that_with_its_x_in_the_row_of_its_o(self):
        for size in (2, 3, 4):
            for grid in all_grids(size):
                told = rings(grid)
                self.assertTrue(is_tuple_throughout(told))
                self.assertEqual(sorted(i for ring in told for i in ring), list(range(size)))
                self.assertEqual([ring[0] for ring in told], sorted(min(ring) for ring in told))
                for ring in told:
                    for one, following in zip(ring, ring[1:] + ring[:1]):
                        self.assertEqual(grid.ohs[one], grid.xs[following])

    def test_ring_of_tells_where_a_column_stands(self):
        for size in (2, 3, 4):
            for grid in all_grids(size):
                for i in range(size):
                    self.assertIn(i, rings(grid)[ring_of(grid, i)])

    def test_known_ring_numbers(self):
        self.assertEqual([ring_of(Grid(*TWO_RINGS), i) for i in range(4)], [0, 0, 1, 1])
        self.assertEqual([ring_of(Grid(*LINKED), i) for i in range(4)], [0, 1, 0, 1])
        self.assertEqual([ring_of(Grid(*THREE_APART), i) for i in range(6)], [0, 0, 1, 1, 2, 2])

    def test_what_is_no_column_is_told(self):
        for pair in (LEAST, TWO_RINGS, FIVE):
            grid = Grid(*pair)
            size = len(grid)
            for wrong in (-1, -size, size, size + 1, 10 ** 30, -10 ** 30, grid) + NO_INTEGERS:
                with self.subTest(wrong=wrong):
                    with self.assertRaises(InvalidNumber) as caught:
                        ring_of(grid, wrong)
                    self.assertIs(caught.exception.value, wrong)


class Crossings(unittest.TestCase):
    def test_known_crossings(self):
        for pair, due in (
            (LEAST, ()),
            (STEPS, ()),
            (TWO_RINGS, ()),
            (LINKED, ((1, 2), (2, 1))),
            (FIVE, ((1, 1), (2, 1))),
            (TREFOIL, ((1, 2), (2, 3), (3, 1))),
            (CHAIN, ((1, 2), (2, 1), (3, 4), (4, 3))),
        ):
            self.assertEqual(crossings(Grid(*pair)), due)

    def test_a_column_and_a_row_cross_strictly_within_both(self):
        for size in (2, 3, 4):
            for grid in all_grids(size):
                due = [
                    (i, r)
                    for i in range(size)
                    for r in range(size)
                    if r in strictly_between(grid.xs[i], grid.ohs[i])
                    and i in strictly_between(x_column(grid, r), o_column(grid, r))
                ]
                self.assertEqual(crossings(grid), tuple(due))
                self.assertTrue(is_tuple_throughout(crossings(grid)))


class Signs(unittest.TestCase):
    def test_the_four_directions(self):
        # In each grid column 1 and row 1 cross: up and down, to the right and to the left.
        for xs, ohs, due in (
            ((1, 0, 2, 3), (3, 2, 1, 0), 1),
            ((1, 2, 0, 3), (3, 0, 1, 2), -1),
            ((3, 0, 1, 2), (1, 2, 0, 3), -1),
            ((3, 2, 1, 0), (1, 0, 2, 3), 1),
        ):
            grid = Grid(xs, ohs)
            self.assertIn((1, 1), crossings(grid))
            self.assertEqual(sign_at(grid, 1, 1), due)

    def test_known_signs(self):
        grid = Grid(*FIVE)
        self.assertEqual([sign_at(grid, 1, 1), sign_at(grid, 2, 1)], [-1, 1])
        self.assertEqual([sign_at(Grid(*TREFOIL), i, r) for i, r in crossings(Grid(*TREFOIL))], [-1, -1, -1])
        self.assertEqual(sign_at(r=1, i=2, grid=grid), 1)

    def test_signs_of_all_pairs_of_small_grids(self):
        for size in (2, 3, 4):
            for grid in all_grids(size):
                crossed = crossings(grid)
                for i, r in product(range(-1, size + 1), repeat=2):
                    if (i, r) in crossed:
                        self.assertEqual(sign_at(grid, i, r), due_sign(grid, i, r))
                    else:
                        with self.assertRaises(Undefined) as caught:
                            sign_at(grid, i, r)
                        self.assertEqual(caught.exception.what, "crossing")

    def test_bools_none_words_and_sequences_are_no_crossings(self):
        grid = Grid(*FIVE)
        self.assertEqual(sign_at(grid, 1, 1), -1)
        wrong = [(value, 1) for value in NO_INTEGERS + (grid, 5, -4, 10 ** 30)]
        wrong += [(1, value) for value in NO_INTEGERS + (grid, 5, -4, 10 ** 30)]
        wrong += [(True, True), (None, None), ((1, 1), (1, 1)), ([1, 1], None)]
        for i, r in wrong:
            with self.subTest(i=i, r=r):
                with self.assertRaises(Undefined) as caught:
                    sign_at(grid, i, r)
                self.assertEqual(caught.exception.what, "crossing")

    def test_the_twist_is_the_sum_of_the_signs(self):
        for size in (2, 3, 4):
            for grid in all_grids(size):
                self.assertEqual(twist(grid), sum(sign_at(grid, i, r) for i, r in crossings(grid)))

    def test_known_twists(self):
        for pair, due in ((LEAST, 0), (STEPS, 0), (FIVE, 0), (TREFOIL, -3), (CHAIN, -4), (LINKED, -2), (TWO_RINGS, 0)):
            self.assertEqual(twist(Grid(*pair)), due)
            self.assertIs(type(twist(Grid(*pair))), int)


class Linkings(unittest.TestCase):
    def test_known_linkings(self):
        for pair, due in (
            (LEAST, ((0,),)),
            (FIVE, ((0,),)),
            (TREFOIL, ((0,),)),
            (TWO_RINGS, ((0, 0), (0, 0))),
            (LINKED, ((0, -1), (-1, 0))),
            (((0, 3, 2, 1), (2, 1, 0, 3)), ((0, 1), (1, 0))),
            (CHAIN, ((0, -1, 0), (-1, 0, -1), (0, -1, 0))),
            (THREE_APART, ((0, 0, 0), (0, 0, 0), (0, 0, 0))),
        ):
            self.assertEqual(linkings(Grid(*pair)), due)

    def test_three_rings_keep_their_own_numbers(self):
        # Three rings that run beside one another; in the second grid the last one runs the other way.
        same = Grid((0, 1, 2, 3, 4, 5), (3, 4, 5, 0, 1, 2))
        self.assertEqual(linkings(same), ((0, -1, -1), (-1, 0, -1), (-1, -1, 0)))
        last_about = Grid((0, 1, 5, 3, 4, 2), (3, 4, 2, 0, 1, 5))
        self.assertEqual(linkings(last_about), ((0, -1, 1), (-1, 0, 1), (1, 1, 0)))

    def test_half_the_sum_of_the_signs_where_one_is_above_the_other(self):
        for size in (2, 3, 4):
            for grid in all_grids(size):
                told = linkings(grid)
                ways = on_the_way(grid)
                self.assertTrue(is_tuple_throughout(told))
                self.assertEqual([len(row) for row in told], [len(ways)] * len(ways))
                for a, b in product(range(len(ways)), repeat=2):
                    met = (ways[a][0] & ways[b][1]) | (ways[b][0] & ways[a][1])
                    whole = 0 if a == b else sum(due_sign(grid, i, r) for i, r in met)
                    self.assertEqual(2 * told[a][b], whole)

    def test_they_stay_when_columns_and_rows_turn(self):
        found = set()
        for grid in all_grids(4):
            self.assertEqual(sorted_linkings(columns_turned(grid)), sorted_linkings(grid))
            self.assertEqual(sorted_linkings(rows_turned(grid)), sorted_linkings(grid))
            found.update(sorted_linkings(grid))
        self.assertEqual(found, {-1, 0, 1})

    def test_larger_grids(self):
        # The largest that may be passed: made of two grids of size 8, one above the other, and a doubled one.
        eight = list(range(1, 8)) + [0]
        apart = Grid(list(range(16)), eight + [o + 8 for o in eight])
        self.assertEqual(rings(apart), (tuple(range(8)), tuple(range(8, 16))))
        self.assertEqual(linkings(apart), ((0, 0), (0, 0)))
        doubled = Grid(list(range(16)), list(range(2, 16)) + [0, 1])
        self.assertEqual(rings(doubled), (tuple(range(0, 16, 2)), tuple(range(1, 16, 2))))
        self.assertEqual(crossings(doubled), tuple((i, i + 1) for i in range(1, 14)) + ((14, 1),))
        self.assertEqual(linkings(doubled), ((0, -7), (-7, 0)))
        self.assertEqual(twist(doubled), -14)


class Basics(unittest.TestCase):
    def test_asking_changes_nothing_and_gives_the_same_again(self):
        asked = [rings, crossings, twist, linkings, lambda grid: ring_of(grid, 1)]
        one, other = Grid(*FIVE), Grid(*LINKED)
        first = [ask(one) for ask in asked]
        between = [ask(other) for ask in asked]
        self.assertEqual([ask(Grid(list(FIVE[0]), list(FIVE[1]))) for ask in asked], first)
        self.assertEqual([ask(other) for ask in asked], between)
        self.assertEqual([one.pair(), other.pair()], [FIVE, LINKED])

    def test_parameters_by_name(self):
        grid = Grid(*LINKED)
        self.assertEqual(rings(grid=grid), ((0, 2), (1, 3)))
        self.assertEqual(ring_of(i=3, grid=grid), 1)
        self.assertEqual(crossings(grid=grid), ((1, 2), (2, 1)))
        self.assertEqual(twist(grid=grid), -2)
        self.assertEqual(linkings(grid=grid), ((0, -1), (-1, 0)))

    def test_an_error_changes_no_grid(self):
        grid = Grid(*FIVE)
        with self.assertRaises(InvalidNumber):
            ring_of(grid, 5)
        with self.assertRaises(Undefined):
            sign_at(grid, 0, 0)
        self.assertEqual(grid.pair(), FIVE)


if __name__ == "__main__":
    unittest.main()
