"""[12] to [14]: mirrored, tipped, turned about, upside down, beside, summed and doubled grids."""

import unittest

from gridknot.errors import InvalidNumber
from gridknot.grids import Grid
from gridknot.making import beside, doubled, mirrored, summed, tipped, turned_about, upside_down
from gridknot.strands import crossings, linkings, ring_of, rings, sign_at, twist
from support import (
    FIVE, KNOWN, LEAST, LINKED, NO_INTEGERS, STEPS, TREFOIL, TWO_RINGS, all_grids, is_tuple_throughout, some_grids,
)


def grids():
    return [grid for size in (2, 3) for grid in all_grids(size)] + [
        grid for size in (4, 5, 6, 7, 8) for grid in some_grids(size, 12)
    ] + [Grid(*pair) for pair in KNOWN]


def marks(grid):
    """The marks of the grid, each as its column, its row and its letter."""
    return {(i, x, "X") for i, x in enumerate(grid.xs)} | {(i, o, "O") for i, o in enumerate(grid.ohs)}


def signs(grid):
    return sorted(sign_at(grid, i, r) for i, r in crossings(grid))


def sizes_of_rings(grid):
    return sorted(len(ring) for ring in rings(grid))


class OneGrid(unittest.TestCase):
    def test_mirrored(self):
        self.assertEqual(mirrored(Grid(*LEAST)).pair(), ((1, 0), (0, 1)))
        self.assertEqual(mirrored(Grid(*FIVE)).pair(), ((2, 4, 0, 3, 1), (1, 2, 4, 0, 3)))
        for grid in grids():
            size = len(grid)
            self.assertEqual(marks(mirrored(grid)), {(size - 1 - i, r, letter) for i, r, letter in marks(grid)})
            self.assertEqual(mirrored(mirrored(grid)), grid)
            self.assertEqual(signs(mirrored(grid)), sorted(-sign for sign in signs(grid)))
            self.assertEqual(twist(mirrored(grid)), -twist(grid))

    def test_tipped(self):
        self.assertEqual(tipped(Grid(*LEAST)).pair(), ((1, 0), (0, 1)))
        self.assertEqual(tipped(Grid(*FIVE)).pair(), ((1, 4, 3, 0, 2), (2, 0, 4, 1, 3)))
        for grid in grids():
            other = {"X": "O", "O": "X"}
            self.assertEqual(marks(tipped(grid)), {(r, i, other[letter]) for i, r, letter in marks(grid)})
            self.assertEqual(tipped(tipped(grid)), grid)
            self.assertEqual(signs(tipped(grid)), signs(grid))
            self.assertEqual(sizes_of_rings(tipped(grid)), sizes_of_rings(grid))

    def test_turned_about(self):
        self.assertEqual(turned_about(Grid(*FIVE)).pair(), FIVE[::-1])
        for grid in grids():
            self.assertEqual(turned_about(grid).pair(), (grid.ohs, grid.xs))
            self.assertEqual(turned_about(turned_about(grid)), grid)
            # All rings run the other way, so that each crossing keeps its sign.
            self.assertEqual(crossings(turned_about(grid)), crossings(grid))
            for i, r in crossings(grid):
                self.assertEqual(sign_at(turned_about(grid), i, r), sign_at(grid, i, r))
            for ring, back in zip(rings(grid), rings(turned_about(grid))):
                self.assertEqual(back, ring[:1] + ring[:0:-1])

    def test_upside_down(self):
        self.assertEqual(upside_down(Grid(*LEAST)).pair(), LEAST)
        self.assertEqual(upside_down(Grid(*FIVE)).pair(), ((2, 0, 4, 1, 3), (3, 2, 0, 4, 1)))
        for grid in grids():
            last = len(grid) - 1
            self.assertEqual(marks(upside_down(grid)), {(last - i, last - r, letter) for i, r, letter in marks(grid)})
            self.assertEqual(upside_down(upside_down(grid)), grid)
            self.assertEqual(signs(upside_down(grid)), signs(grid))

    def test_doubled(self):
        self.assertEqual(doubled(Grid(*LEAST)).pair(), LINKED)
        self.assertEqual(doubled(Grid(*STEPS)).pair(), ((0, 1, 2, 3, 4, 5), (2, 3, 4, 5, 0, 1)))
        for grid in grids():
            due = {(2 * i + k, 2 * r + k, letter) for i, r, letter in marks(grid) for k in (0, 1)}
            self.assertEqual(marks(doubled(grid)), due)
            self.assertEqual(len(doubled(grid)), 2 * len(grid))
            self.assertEqual(sizes_of_rings(doubled(grid)), sorted(2 * sizes_of_rings(grid)))

    def test_each_ring_becomes_two_beside_each_other(self):
        for grid in grids():
            twofold = doubled(grid)
            told, twice = linkings(grid), linkings(twofold)
            for i in range(len(grid)):
                for j in range(len(grid)):
                    a, b = ring_of(grid, i), ring_of(grid, j)
                    if a != b:
                        for k in (0, 1):
                            for m in (0, 1):
                                c, d = ring_of(twofold, 2 * i + k), ring_of(twofold, 2 * j + m)
                                self.assertEqual(twice[c][d], told[a][b])
                self.assertNotEqual(ring_of(twofold, 2 * i), ring_of(twofold, 2 * i + 1))


class Beside(unittest.TestCase):
    def test_known_grids(self):
        least, steps = Grid(*LEAST), Grid(*STEPS)
        self.assertEqual(beside(least, least).pair(), TWO_RINGS)
        self.assertEqual(beside(least, steps).pair(), ((0, 1, 2, 3, 4), (1, 0, 3, 4, 2)))
        self.assertEqual(beside(steps, least).pair(), ((0, 1, 2, 3, 4), (1, 2, 0, 4, 3)))

    def test_one_first_the_other_behind_and_above(self):
        for one in grids()[::3]:
            for other in grids()[::5]:
                size = len(one)
                both = beside(one, other)
                self.assertEqual(
                    marks(both), marks(one) | {(i + size, r + size, letter) for i, r, letter in marks(other)}
                )
                self.assertEqual(len(both), size + len(other))
                self.assertEqual(rings(both)[:len(rings(one))], rings(one))
                self.assertEqual(crossings(both)[:len(crossings(one))], crossings(one))
                self.assertEqual(len(crossings(both)), len(crossings(one)) + len(crossings(other)))
                self.assertEqual(twist(both), twist(one) + twist(other))

    def test_the_rings_are_apart(self):
        one, other = Grid(*LINKED), Grid(*LINKED)
        self.assertEqual(linkings(beside(one, other)), ((0, -1, 0, 0), (-1, 0, 0, 0), (0, 0, 0, -1), (0, 0, -1, 0)))

    def test_two_of_size_eight(self):
        one, other = some_grids(8, 2)
        self.assertEqual(len(beside(one, other)), 16)


class Summed(unittest.TestCase):
    def due_marks(self, one, i, other, j):
        """The marks of the sum in the document's words."""
        n, m = len(one), len(other)
        first = {((k - i - 1) % n, (r - one.xs[i] - 1) % n, letter) for k, r, letter in marks(one)}
        second = {((k - j) % m, (r - other.ohs[j]) % m, letter) for k, r, letter in marks(other)}
        self.assertIn((n - 1, n - 1, "X"), first)
        self.assertIn((0, 0, "O"), second)
        moved = {(k + n - 1, r + n - 1, letter) for k, r, letter in second - {(0, 0, "O")}}
        return (first - {(n - 1, n - 1, "X")}) | moved

    def test_known_sums(self):
        least, steps = Grid(*LEAST), Grid(*STEPS)
        self.assertEqual(summed(least, 0, least, 0).pair(), ((0, 2, 1), (1, 0, 2)))
        self.assertEqual(summed(least, 1, least, 1).pair(), ((0, 2, 1), (1, 0, 2)))
        self.assertEqual(summed(steps, 2, least, 1).pair(), ((0, 1, 3, 2), (1, 2, 0, 3)))
        self.assertEqual(summed(least, 1, steps, 2).pair(), ((0, 3, 1, 2), (1, 0, 2, 3)))

    def test_every_pair_of_columns(self):
        for one in grids()[::4]:
            for other in grids()[::9]:
                for i in range(len(one)):
                    for j in range(len(other)):
                        both = summed(one, i, other, j)
                        self.assertEqual(marks(both), self.due_marks(one, i, other, j))
                        self.assertEqual(len(both), len(one) + len(other) - 1)
                        self.assertEqual(len(rings(both)), len(rings(one)) + len(rings(other)) - 1)
                        self.assertTrue(is_tuple_throughout(both.pair()))

    def test_the_other_rings_stay_as_they_were(self):
        # The ring of column 0 of TWO_RINGS, and then the other one, is summed with one of two linked rings.
        for i in range(4):
            both = summed(Grid(*LINKED), 1, Grid(*TWO_RINGS), i)
            told = linkings(both)
            self.assertEqual(sorted(told[a][b] for a in range(3) for b in range(a)), [-1, 0, 0])
        both = summed(Grid(*LINKED), 0, Grid(*LINKED), 0)
        told = linkings(both)
        self.assertEqual(sorted(told[a][b] for a in range(3) for b in range(a)), [-1, -1, 0])

    def test_columns_that_are_none(self):
        one, other = Grid(*FIVE), Grid(*STEPS)
        self.assertIsInstance(summed(one, 4, other, 2), Grid)
        for wrong in (-1, 5, 6, 10 ** 30, -10 ** 30, one) + NO_INTEGERS:
            with self.assertRaises(InvalidNumber) as caught:
                summed(one, wrong, other, 0)
            self.assertIs(caught.exception.value, wrong)
        for wrong in (-1, 3, 4, 10 ** 30, -10 ** 30, one) + NO_INTEGERS:
            with self.assertRaises(InvalidNumber) as caught:
                summed(one, 4, other, wrong)
            self.assertIs(caught.exception.value, wrong)

    def test_the_first_column_is_looked_at_first(self):
        one, other = Grid(*FIVE), Grid(*STEPS)
        for i, j in ((5, 3), (True, None), ([], [1]), ("0", -1)):
            with self.assertRaises(InvalidNumber) as caught:
                summed(one, i, other, j)
            self.assertIs(caught.exception.value, i)


class Basics(unittest.TestCase):
    def test_parameters_by_name(self):
        one, other = Grid(*FIVE), Grid(*STEPS)
        for make in (mirrored, tipped, turned_about, upside_down, doubled):
            self.assertEqual(make(grid=one), make(one))
        self.assertEqual(beside(other=other, one=one), beside(one, other))
        self.assertEqual(summed(j=2, other=other, i=3, one=one), summed(one, 3, other, 2))

    def test_grids_come_and_the_old_ones_stay(self):
        one, other = Grid(*FIVE), Grid(*TREFOIL)
        asked = [
            lambda: mirrored(one), lambda: tipped(one), lambda: turned_about(one), lambda: upside_down(one),
            lambda: doubled(one), lambda: beside(one, other), lambda: summed(one, 1, other, 2),
        ]
        first = [ask() for ask in asked]
        self.assertEqual([ask() for ask in asked], first)
        for grid in first:
            self.assertIs(type(grid), Grid)
            self.assertTrue(is_tuple_throughout(grid.pair()))
            self.assertEqual(Grid(*grid.pair()), grid)
        self.assertEqual([one.pair(), other.pair()], [FIVE, TREFOIL])


if __name__ == "__main__":
    unittest.main()
