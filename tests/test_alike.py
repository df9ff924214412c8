"""[11]: the claim that two grids tell one link, its papers, and the search for them."""

import unittest

from gridknot.alike import alike_holds, search_alike
from gridknot.errors import InvalidNumber
from gridknot.grids import Grid
from gridknot.making import beside, doubled, mirrored
from gridknot.moves import led, moved, moves_open, way_back
from support import (
    BARRED, FIVE, KNOWN, LEAST, LINKED, NO_INTEGERS, STEPS, TREFOIL, TWO_RINGS, all_grids, as_bools, as_lists,
    changed_parts, grow_moves, is_tuple_throughout, of_other_length, some_grids, spoiled,
)

# A claim and a paper of it about the grid STEPS: grown in both manners, turned, swapped, shrunk.
ROW = (("grow column", 1, 1, "up"), ("turn rows",), ("grow row", 0, 1, "down"), ("shrink column", 1), ("turn columns",))


def claim_of(grid):
    return ("alike",) + grid.pair()


def first_row(grid, other, depth):
    """The first row of just that many moves that never grow, by going through all of them."""
    if depth == 0:
        return () if grid == other else None
    for move in moves_open(grid):
        behind = first_row(moved(grid, move), other, depth - 1)
        if behind is not None:
            return (move,) + behind
    return None


def due_search(grid, other, depth):
    for many in range(depth + 1):
        found = first_row(grid, other, many)
        if found is not None:
            return found
    return None


class Holds(unittest.TestCase):
    def setUp(self):
        self.grid = Grid(*STEPS)
        self.claim = claim_of(led(self.grid, ROW))

    def test_a_row_that_leads_there(self):
        self.assertIs(alike_holds(self.grid, self.claim, ROW), True)
        self.assertIs(alike_holds(paper=ROW, grid=self.grid, claim=self.claim), True)

    def test_the_empty_row_leads_to_the_grid_itself_alone(self):
        for pair in KNOWN:
            grid = Grid(*pair)
            self.assertIs(alike_holds(grid, claim_of(grid), ()), True)
            self.assertIs(alike_holds(grid, claim_of(mirrored(grid)), ()), mirrored(grid) == grid)
            self.assertIs(alike_holds(grid, claim_of(grid), []), False)

    def test_each_single_move(self):
        for grid in all_grids(3) + some_grids(5, 5) + [Grid(*pair) for pair in KNOWN]:
            for move in moves_open(grid) + tuple(grow_moves(len(grid))[::5]):
                end = moved(grid, move)
                self.assertIs(alike_holds(grid, claim_of(end), (move,)), True)
                self.assertIs(alike_holds(end, claim_of(grid), way_back(grid, move)), True)
                self.assertIs(alike_holds(grid, claim_of(end), (move,) + (("turn rows",),) * len(end)), True)
                self.assertIs(alike_holds(grid, claim_of(end), (move, ("turn rows",))), False)
                self.assertIs(alike_holds(grid, claim_of(end), move), False)
                self.assertIs(alike_holds(grid, claim_of(end), list((move,))), False)
                self.assertIs(alike_holds(grid, claim_of(end), (list(move),)), False)

    def test_another_grid_than_that_to_which_it_leads(self):
        end = led(self.grid, ROW)
        for size in (2, 3, 4, 5):
            for other in all_grids(size) if size < 5 else some_grids(5, 50):
                self.assertIs(alike_holds(self.grid, claim_of(other), ROW), other == end)
                self.assertIs(alike_holds(other, self.claim, ()), other == end)

    def test_rows_that_cannot_be_done(self):
        for k in range(len(ROW) + 1):
            for wrong in (("swap columns", 0), ("shrink column", 5), ("turn",), ("shrink row", -1), (), ((),)):
                self.assertIs(alike_holds(self.grid, self.claim, ROW[:k] + (wrong,) + ROW[k:]), False)

    def test_size_eight_may_grow_in_between(self):
        grid = Grid((3, 1, 4, 0, 5, 7, 2, 6), (7, 6, 5, 4, 3, 2, 1, 0))
        row = (("grow row", 8, 7, "down"), ("turn columns",), ("turn rows",), ("shrink row", 7))
        end = led(grid, row)
        self.assertIs(alike_holds(grid, claim_of(end), row), True)
        row = (("turn rows",),) * 200
        self.assertIs(alike_holds(grid, claim_of(grid), row), True)

    def test_grids_made_of_others(self):
        grid = beside(doubled(Grid(*STEPS)), Grid(*FIVE))
        row = (("turn rows",), ("grow column", 4, 4, "down"), ("turn columns",))
        self.assertIs(alike_holds(grid, claim_of(led(grid, row)), row), True)


class WrongClaimsAndPapers(unittest.TestCase):
    def setUp(self):
        self.grid = Grid(*STEPS)
        self.claim = claim_of(led(self.grid, ROW))

    def test_claims_with_one_part_changed(self):
        for wrong in list(spoiled(self.claim)) + list(of_other_length(self.claim)):
            with self.subTest(claim=wrong):
                self.assertIs(alike_holds(self.grid, wrong, ROW), False)

    def test_papers_with_one_part_changed(self):
        for wrong in list(spoiled(ROW)) + list(of_other_length(ROW)):
            with self.subTest(paper=wrong):
                self.assertIs(alike_holds(self.grid, self.claim, wrong), False)

    def test_words_and_numbers_in_the_place_of_others(self):
        for wrong in changed_parts(self.claim, ("", "x", 0, -1, 9, 10 ** 12)):
            if wrong != self.claim:
                self.assertIs(alike_holds(self.grid, wrong, ROW), False)
        for wrong in changed_parts(ROW, ("", "x", 7, -1, 10 ** 12, (), ("turn",))):
            self.assertIs(alike_holds(self.grid, self.claim, wrong), False)

    def test_lists_and_bools_that_would_do_as_tuples_and_numbers(self):
        self.assertIs(alike_holds(self.grid, claim_of(self.grid), ()), True)
        for change in (as_lists, as_bools):
            for wrong in change(claim_of(self.grid)):
                self.assertIs(alike_holds(self.grid, wrong, ()), False)
            for wrong in change(ROW):
                self.assertIs(alike_holds(self.grid, self.claim, wrong), False)

    def test_what_stands_behind_the_end_counts_too(self):
        for value in BARRED + ("x", 0, ()):
            self.assertIs(alike_holds(self.grid, self.claim + (value,), ROW), False)
            self.assertIs(alike_holds(self.grid, self.claim, ROW + (value,)), False)

    def test_claims_of_other_kinds(self):
        pair = self.grid.pair()
        for claim in (
            ("unlike",) + pair, ("ring",), ("alike",), ("alike", pair), ("alike", pair[0]), pair, ("Alike",) + pair,
            "alike", ("alike",) + pair[::-1], ("alike",) + pair + ((),), (("alike",),) + pair, ("colours", 3, 9),
            ("alike", (0, 1, 2), (0, 1, 2)), ("alike", (), ()), ("alike", (0,), (0,)), ("alike", 3, 3),
            ("alike", "012", "120"), ("alike", (0, 1, 3), (1, 3, 0)), None, True, 0, [], (), self.grid,
        ):
            self.assertIs(alike_holds(self.grid, claim, ()), False)

    def test_deep_values(self):
        deep = ()
        for _ in range(29):
            deep = (deep,)
        hidden = [None]
        for _ in range(29):
            hidden = (hidden,)
        for value in (deep, hidden, (deep, deep)):
            self.assertIs(alike_holds(self.grid, value, ROW), False)
            self.assertIs(alike_holds(self.grid, self.claim, value), False)
            self.assertIs(alike_holds(self.grid, self.claim, ROW + (value,)), False)

    def test_long_papers(self):
        self.assertIs(alike_holds(self.grid, self.claim, (0,) * 200000), False)
        self.assertIs(alike_holds(self.grid, self.claim, ((),) * 200000), False)


class Search(unittest.TestCase):
    def test_known_rows(self):
        steps, least = Grid(*STEPS), Grid(*LEAST)
        self.assertEqual(search_alike(steps, least, 1), (("shrink column", 0),))
        self.assertEqual(search_alike(steps, least, 4), (("shrink column", 0),))
        self.assertEqual(search_alike(least, least, 0), ())
        self.assertEqual(search_alike(least, least, 4), ())
        self.assertIs(search_alike(least, steps, 4), None)
        self.assertIs(search_alike(steps, least, 0), None)
        self.assertEqual(
            search_alike(Grid(*TWO_RINGS), Grid((0, 2, 1, 3), (1, 3, 0, 2)), 1), (("swap columns", 1),)
        )

    def test_of_rows_of_one_length_the_first(self):
        # A turn of columns and one of rows may come in either order; turns stand ahead of swaps and shrinks.
        grid = Grid(*FIVE)
        end = led(grid, (("turn rows",), ("turn columns",)))
        self.assertEqual(search_alike(grid, end, 2), (("turn columns",), ("turn rows",)))
        turned = moved(Grid(*LEAST), ("turn rows",))
        self.assertEqual(search_alike(Grid(*LEAST), turned, 3), (("turn columns",),))

    def test_small_grids_against_going_through_all_rows(self):
        grids = all_grids(2) + all_grids(3) + all_grids(4)[::20]
        for grid in grids[::2]:
            for other in grids[::3]:
                for depth in (0, 1, 2):
                    due = due_search(grid, other, depth)
                    self.assertEqual(search_alike(grid, other, depth), due)

    def test_ends_of_known_rows_against_going_through_all_rows(self):
        for grid in some_grids(5, 12) + some_grids(6, 6):
            end, depth = grid, 3
            for k in range(depth):
                moves = moves_open(end)
                end = moved(end, moves[(3 + 5 * k) % len(moves)])
            due = due_search(grid, end, depth)
            self.assertIsNotNone(due)
            for more in (depth, depth + 1):
                self.assertEqual(search_alike(grid, end, more), due)
            self.assertIs(search_alike(grid, end, len(due) - 1) if due else None, None)

    def test_four_moves(self):
        for grid in some_grids(4, 8):
            end = grid
            for k in range(4):
                end = moved(end, moves_open(end)[-1 - k % 2])
            self.assertEqual(search_alike(grid, end, 4), due_search(grid, end, 4))

    def test_what_is_found_is_a_paper(self):
        for grid in some_grids(7, 6) + some_grids(8, 3):
            end = grid
            for k in range(4):
                moves = moves_open(end)
                end = moved(end, moves[(1 + 7 * k) % len(moves)])
            found = search_alike(grid, end, 4)
            self.assertIs(type(found), tuple)
            self.assertLessEqual(len(found), 4)
            self.assertIs(alike_holds(grid, claim_of(end), found), True)

    def test_other_links_and_larger_grids_are_not_reached(self):
        self.assertIs(search_alike(Grid(*TREFOIL), Grid(*FIVE), 4), None)
        self.assertIs(search_alike(Grid(*TWO_RINGS), Grid(*LINKED), 4), None)
        self.assertIs(search_alike(Grid(*FIVE), Grid(*LEAST), 2), None)
        self.assertIs(search_alike(Grid((0, 1, 2, 3, 4, 5, 6, 7), (1, 2, 3, 4, 5, 6, 7, 0)), Grid(*LEAST), 4), None)

    def test_only_shrinks_when_all_moves_are_needed_for_them(self):
        grid = Grid((0, 1, 2, 3, 4, 5), (1, 2, 3, 4, 5, 0))
        self.assertEqual(search_alike(grid, Grid(*LEAST), 4), (("shrink column", 0),) * 4)
        self.assertIs(search_alike(grid, Grid(*LEAST), 3), None)

    def test_grids_made_of_others(self):
        grid = beside(*some_grids(8, 2))
        end = led(grid, (("turn rows",), ("turn columns",), ("turn columns",)))
        self.assertEqual(search_alike(grid, end, 3), (("turn columns",), ("turn columns",), ("turn rows",)))
        grid = doubled(Grid(*FIVE))
        self.assertEqual(search_alike(grid, moved(grid, moves_open(grid)[-1]), 2), (moves_open(grid)[-1],))

    def test_depths_that_are_none(self):
        grid = Grid(*LEAST)
        for depth in (-1, 5, 6, 10 ** 30, -10 ** 30, grid) + NO_INTEGERS:
            for other in (grid, Grid(*STEPS)):
                with self.subTest(depth=depth):
                    with self.assertRaises(InvalidNumber) as caught:
                        search_alike(grid, other, depth)
                    self.assertIs(caught.exception.value, depth)

    def test_again_and_by_name(self):
        grid, other = Grid(*FIVE), Grid((0, 2, 4, 3, 1), (2, 4, 3, 1, 0))
        found = search_alike(grid, other, 4)
        self.assertEqual(found, (("turn rows",),))
        self.assertEqual(search_alike(Grid(*STEPS), Grid(*LEAST), 2), (("shrink column", 0),))
        self.assertEqual(search_alike(depth=4, other=other, grid=grid), found)
        self.assertTrue(is_tuple_throughout(grid.pair()))
        self.assertEqual([grid.pair(), other.pair()], [FIVE, ((0, 2, 4, 3, 1), (2, 4, 3, 1, 0))])


if __name__ == "__main__":
    unittest.main()
