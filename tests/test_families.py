"""[20], [21], [24]: turns, families, parted grids, least sizes, and the ways to the places of a family."""

import unittest

from gridknot.errors import KnotError, Undefined
from gridknot.families import family, family_moves, first_turn, least_size, parted_at, smallest
from gridknot.grids import Grid
from gridknot.making import beside, doubled, mirrored
from gridknot.moves import led, moved, moves_open
from gridknot.strands import rings
from support import (
    BARRED, CHAIN, EIGHT_KNOT, FIVE, KNOWN, LEAST, LINKED, NO_INTEGERS, STEPS, TREFOIL, TWO_RINGS, all_grids,
    all_pairs, as_bools, as_lists, is_tuple_throughout, some_grids,
)
from turning import (
    NEVER_GROW, all_places, all_turns, by_size, due_family, due_parted_at, due_place,
)

# Its family has one place that is reached across the upper end of its columns alone.
SEAM = ((0, 1, 2, 4, 3), (1, 2, 4, 3, 0))


class FirstTurns(unittest.TestCase):
    def test_known_ones(self):
        for pair, due in (
            (LEAST, LEAST),
            (LEAST[::-1], LEAST),
            (((1, 2, 0), (2, 0, 1)), STEPS),
            (((2, 1, 0), (0, 2, 1)), ((0, 2, 1), (1, 0, 2))),
            (TREFOIL, TREFOIL),
            (FIVE, ((0, 2, 1, 4, 3), (2, 1, 4, 3, 0))),
            (((1, 3, 0, 2), (2, 0, 1, 3)), ((0, 1, 3, 2), (1, 2, 0, 3))),
        ):
            self.assertEqual(first_turn(Grid(*pair)).pair(), due)

    def test_against_all_turns(self):
        grids = [grid for size in (2, 3, 4) for grid in all_grids(size)] + [Grid(*pair) for pair in KNOWN]
        for grid in grids + [grid for size in (5, 6, 7, 8) for grid in some_grids(size, 25)]:
            told = first_turn(grid)
            self.assertIs(type(told), Grid)
            self.assertEqual(told.pair(), min(all_turns(grid.pair())))
            self.assertTrue(is_tuple_throughout(told.pair()))

    def test_all_turns_have_the_same_one(self):
        for pair in (LEAST, STEPS, TWO_RINGS, FIVE, EIGHT_KNOT, CHAIN):
            for turn in all_turns(pair):
                self.assertEqual(first_turn(Grid(*turn)), first_turn(Grid(*pair)))

    def test_a_grid_that_is_its_own(self):
        for size in (2, 3, 4, 5):
            for place in all_places(size):
                self.assertEqual(first_turn(Grid(*place)).pair(), place)

    def test_the_rows_of_the_o_decide_where_those_of_the_x_are_the_same(self):
        # Both begin with the rows 0, 1, 2, 3 of the X.
        grid = Grid((0, 1, 2, 3), (3, 2, 1, 0))
        self.assertRaises(KnotError, Grid, (0, 1, 2, 3), (3, 1, 2, 0))
        self.assertEqual(first_turn(grid).pair(), ((0, 1, 2, 3), (1, 0, 3, 2)))
        grid = Grid((0, 1, 2, 3, 4), (4, 3, 0, 2, 1))
        self.assertEqual(first_turn(grid).pair(), min(all_turns(grid.pair())))
        self.assertEqual(first_turn(grid).pair()[0], (0, 1, 2, 3, 4))


class Families(unittest.TestCase):
    def test_known_ones(self):
        steps = ((0, 1), (1, 0)), ((0, 1, 2), (1, 2, 0))
        for pair, due in (
            (LEAST, steps[:1]),
            (LEAST[::-1], steps[:1]),
            (STEPS, steps),
            (LINKED, (LINKED,)),
            (TREFOIL, (TREFOIL,)),
            (EIGHT_KNOT, (((0, 1, 4, 5, 3, 2), (3, 5, 0, 2, 1, 4)),)),
        ):
            self.assertEqual(family(Grid(*pair)), due)

    def test_all_grids_of_small_size_against_every_move_on_every_grid(self):
        for size in (2, 3, 4):
            for pair in all_pairs(size)[::1 if size < 4 else 3]:
                self.assertEqual(family(Grid(*pair)), due_family(pair))

    def test_size_five_against_every_move_on_every_grid(self):
        for place in all_places(5)[::16] + [SEAM, FIVE, TREFOIL]:
            self.assertEqual(family(Grid(*place)), due_family(place))

    def test_size_six_against_every_move_on_every_grid(self):
        for grid in [Grid(*CHAIN), Grid(*EIGHT_KNOT)] + [grid for grid in some_grids(6, 40) if len(family(grid)) < 25]:
            self.assertEqual(family(grid), due_family(grid.pair()))

    def test_its_form(self):
        for place in all_places(5)[::3]:
            told = family(Grid(*place))
            self.assertTrue(is_tuple_throughout(told))
            self.assertIn(place, told)
            self.assertEqual(list(told), sorted(set(told), key=by_size))
            self.assertTrue(all(due_place(member) == member for member in told))

    def test_by_size_then_by_pythons_order(self):
        # Python alone would put ((0, 2, 1), (2, 1, 0)) behind six others.
        due = (
            ((0, 1), (1, 0)),
            ((0, 1, 2), (1, 2, 0)),
            ((0, 2, 1), (2, 1, 0)),
            ((0, 1, 2, 3), (1, 2, 3, 0)),
            ((0, 1, 3, 2), (1, 3, 2, 0)),
            ((0, 1, 2, 4, 3), (1, 2, 4, 3, 0)),
            ((0, 1, 3, 4, 2), (1, 3, 4, 2, 0)),
            ((0, 2, 4, 1, 3), (2, 4, 1, 3, 0)),
        )
        self.assertEqual(family(Grid(*SEAM)), due)

    def test_across_the_seam(self):
        across = due_place(moved(moved(Grid(*SEAM), ("turn rows",)), ("swap rows", 3)).pair())
        self.assertIn(across, family(Grid(*SEAM)))
        # Neither of these two has a place of its own kind to go to but across the seam.
        linked = Grid((0, 1, 2, 4, 3), (2, 3, 0, 1, 4))
        self.assertEqual(len(family(linked)), 3)
        self.assertEqual(family(linked), due_family(linked.pair()))

    def test_each_turn_has_the_same_family(self):
        for pair in (STEPS, TWO_RINGS, SEAM, FIVE):
            for turn in all_turns(pair):
                self.assertEqual(family(Grid(*turn)), family(Grid(*pair)))

    def test_families_of_what_moves_lead_to_are_parts_of_it(self):
        for grid in some_grids(5, 12):
            told = family(grid)
            for move in moves_open(grid):
                behind = family(moved(grid, move))
                self.assertLessEqual(set(behind), set(told))
                if move[0].startswith("swap"):
                    self.assertEqual(behind, told)

    def test_all_of_it_have_the_same_number_of_rings(self):
        for grid in some_grids(6, 6):
            for place in family(grid):
                self.assertEqual(len(rings(Grid(*place))), len(rings(grid)))

    def test_of_the_mirror_image(self):
        for grid in some_grids(5, 10):
            due = {due_place(mirrored(Grid(*place)).pair()) for place in family(grid)}
            self.assertEqual(set(family(mirrored(grid))), due)


class Parted(unittest.TestCase):
    def test_known_ones(self):
        for pair, due in (
            (LEAST, ()),
            (STEPS, ()),
            (TWO_RINGS, (2,)),
            (LINKED, ()),
            (((3, 1, 2, 0), (0, 2, 1, 3)), ()),
            (((0, 1, 2, 3, 4, 5), (1, 0, 3, 2, 5, 4)), (2, 4)),
            (((0, 1, 2, 3, 4), (1, 0, 3, 4, 2)), (2,)),
            (((0, 1, 2, 3, 4), (1, 2, 0, 4, 3)), (3,)),
        ):
            self.assertEqual(parted_at(Grid(*pair)), due)

    def test_against_the_documents_words(self):
        for size in (2, 3, 4):
            for pair in all_pairs(size):
                self.assertEqual(parted_at(Grid(*pair)), due_parted_at(pair))
        for grid in some_grids(5, 50) + some_grids(8, 30):
            self.assertEqual(parted_at(grid), due_parted_at(grid.pair()))

    def test_each_k(self):
        met = set()
        grids = [grid for size in (2, 3, 4, 5, 6) for grid in some_grids(size, 2)]
        for one in grids:
            for other in grids:
                told = parted_at(beside(one, other))
                self.assertTrue(is_tuple_throughout(told))
                due = parted_at(one) + (len(one),) + tuple(len(one) + k for k in parted_at(other))
                self.assertEqual(told, due)
                met.update((len(one) + len(other), k) for k in told)
        for size in (4, 5, 6, 7, 8):
            self.assertLessEqual({(size, k) for k in range(2, size - 1)}, met)

    def test_a_turn_is_another_grid(self):
        self.assertEqual(parted_at(moved(Grid(*TWO_RINGS), ("turn rows",))), ())
        turned = led(Grid(*TWO_RINGS), [("turn rows",), ("turn columns",)])
        self.assertEqual(parted_at(turned), ())
        self.assertEqual(parted_at(led(turned, [("turn rows",), ("turn columns",)])), (2,))


class Smallest(unittest.TestCase):
    def check_row(self, grid, place, moves):
        self.assertIs(type(moves), tuple)
        self.assertTrue(all(type(move) is tuple and move[0] in NEVER_GROW for move in moves))
        self.assertLessEqual(len(moves), 200)
        self.assertEqual(led(grid, moves).pair(), place)

    def test_known_least_sizes(self):
        for pair, due in (
            (LEAST, 2), (STEPS, 2), (TWO_RINGS, 4), (LINKED, 4), (FIVE, 2), (TREFOIL, 5), (CHAIN, 6), (EIGHT_KNOT, 6),
            (((0, 1, 2, 4, 3), (2, 3, 0, 1, 4)), 4),
        ):
            self.assertEqual(least_size(Grid(*pair)), due)

    def test_against_the_family(self):
        grids = [Grid(*place) for size in (2, 3, 4) for place in all_places(size)] + some_grids(5, 60)
        for grid in grids:
            told = family(grid)
            self.assertEqual(least_size(grid), min(len(place[0]) for place in told))
            self.assertIs(type(least_size(grid)), int)
            place, moves = smallest(grid)
            self.assertIs(type(smallest(grid)), tuple)
            self.assertEqual(place, told[0])
            self.check_row(grid, place, moves)

    def test_of_several_smallest_ones_the_first(self):
        met = 0
        for place in all_places(4) + [CHAIN]:
            told = due_family(place)
            if len(told) > 1 and len(told[0][0]) == len(told[1][0]):
                met += 1
                self.assertEqual(smallest(Grid(*place))[0], told[0])
        self.assertGreater(met, 0)

    def test_ways_to_each_place_of_the_family(self):
        for grid in [Grid(*turn) for pair in (STEPS, TWO_RINGS) for turn in all_turns(pair)] + some_grids(5, 20):
            for xs, ohs in family(grid):
                self.check_row(grid, (xs, ohs), family_moves(grid, xs, ohs))

    def test_ways_of_size_five_and_six(self):
        for place in all_places(5)[::16]:
            for xs, ohs in family(Grid(*place)):
                self.check_row(Grid(*place), (xs, ohs), family_moves(Grid(*place), xs, ohs))
        for grid in some_grids(6, 6):
            for xs, ohs in family(grid)[::80]:
                self.check_row(grid, (xs, ohs), family_moves(grid, xs, ohs))
            self.check_row(grid, *smallest(grid))

    def test_moves_are_none_where_the_grid_is_the_place(self):
        self.assertEqual(family_moves(Grid(*TREFOIL), *TREFOIL), ())
        self.assertEqual(smallest(Grid(*LEAST)), (LEAST, ()))


class NoPlaces(unittest.TestCase):
    def refused(self, grid, xs, ohs):
        with self.assertRaises(Undefined) as caught:
            family_moves(grid, xs, ohs)
        self.assertEqual(caught.exception.what, "place")

    def test_turns_of_places(self):
        for pair in (LEAST, STEPS, TREFOIL, FIVE):
            for turn in all_turns(pair):
                if turn != due_place(pair):
                    self.refused(Grid(*pair), *turn)

    def test_places_of_other_families(self):
        for pair in (LEAST, STEPS, TWO_RINGS, LINKED, TREFOIL, FIVE):
            told = family(Grid(*pair))
            for size in (2, 3, 4):
                for place in all_places(size):
                    if place not in told:
                        self.refused(Grid(*pair), *place)
        self.refused(Grid(*LEAST), *STEPS)
        self.refused(Grid(*TREFOIL), *LEAST)
        self.refused(Grid(*LINKED), *TWO_RINGS)

    def test_lists_bools_and_other_values(self):
        grid = Grid(*STEPS)
        for place in (LEAST, STEPS):
            for wrong in list(as_lists(place)) + list(as_bools(place)):
                if isinstance(wrong, tuple):
                    self.refused(grid, wrong[0], wrong[1])
        deep = ()
        for _ in range(29):
            deep = (deep,)
        for value in NO_INTEGERS + BARRED + (deep, [deep], "01", (0,), (0, 0), (0, 2), 7, (None, 0), ((0, 1), (1, 0))):
            self.refused(grid, value, LEAST[1])
            self.refused(grid, LEAST[0], value)
            self.refused(grid, value, value)

    def test_pairs_that_make_no_grid(self):
        for xs, ohs in (((0, 1), (0, 1)), ((), ()), ((0,), (0,)), ((0, 1), (1, 0, 2)), ((0, 0), (1, 1)), ((0, 1, 2), (1, 2))):
            self.refused(Grid(*STEPS), xs, ohs)

    def test_the_wrong_place_changes_nothing(self):
        grid, xs, ohs = Grid(*STEPS), [0, 1], [1, 0]
        self.refused(grid, xs, ohs)
        self.assertEqual([grid.pair(), xs, ohs], [STEPS, [0, 1], [1, 0]])


class Basics(unittest.TestCase):
    def test_by_name_and_again(self):
        one, other = Grid(*SEAM), Grid(*FIVE)
        asked = [
            lambda grid: first_turn(grid=grid).pair(),
            lambda grid: family(grid=grid),
            lambda grid: parted_at(grid=grid),
            lambda grid: least_size(grid=grid),
            lambda grid: smallest(grid=grid),
            lambda grid: family_moves(ohs=(1, 0), grid=grid, xs=(0, 1)),
        ]
        first = [ask(one) for ask in asked]
        between = [ask(other) for ask in asked]
        self.assertEqual([ask(Grid(list(SEAM[0]), list(SEAM[1]))) for ask in asked], first)
        self.assertEqual([ask(other) for ask in asked], between)
        self.assertEqual([one.pair(), other.pair()], [SEAM, FIVE])

    def test_greater_grids_are_told_too(self):
        self.assertEqual(parted_at(beside(Grid(*FIVE), Grid(*TREFOIL))), (5,))
        self.assertEqual(first_turn(doubled(Grid(*LEAST))).pair(), LINKED)


if __name__ == "__main__":
    unittest.main()
