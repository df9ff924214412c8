"""[9] and [10]: the moves, which of them can be done, and the way back."""

import unittest

from gridknot.errors import InvalidMove, KnotError
from gridknot.grids import Grid
from gridknot.making import beside, doubled, tipped, upside_down
from gridknot.moves import led, moved, moves_open, way_back
from support import (
    FIVE, KNOWN, LEAST, LINKED, NO_INTEGERS, STEPS, TREFOIL, TWO_RINGS, all_grids, grow_moves, is_tuple_throughout,
    some_grids,
)

# A staircase of size 8, the largest that may be passed.
EIGHT = (tuple(range(8)), tuple(range(1, 8)) + (0,))


def marks(grid):
    """The marks of the grid, each as its column, its row and its letter."""
    return {(i, x, "X") for i, x in enumerate(grid.xs)} | {(i, o, "O") for i, o in enumerate(grid.ohs)}


def across(places):
    """The marks with columns and rows exchanged."""
    return {(r, i, letter) for i, r, letter in places}


def rows_of(places, i):
    return [r for k, r, _ in places if k == i]


def strictly_between(value, ends):
    return min(ends) < value < max(ends)


def columns_can(places, size, word, parts):
    """Whether the move of columns can be done on the marks, in the document's words."""
    i = parts[0] if parts else None
    if word == "swap":
        if i + 1 >= size:
            return False
        one, other = rows_of(places, i), rows_of(places, i + 1)
        within = [strictly_between(r, one) for r in other]
        return len(set(one + other)) == 4 and within[0] == within[1]
    if word == "shrink":
        low, high = sorted(rows_of(places, i))
        others = [k for k, r, _ in places if r in (low, high) and k != i]
        return high == low + 1 and len(set(others)) == 2
    return True


def columns_done(places, size, word, parts):
    """The marks behind a move of columns that can be done, in the document's words."""
    if word == "turn":
        return {((i - 1) % size, r, letter) for i, r, letter in places}
    k = parts[0]
    if word == "swap":
        goes = {k: k + 1, k + 1: k}
        return {(goes.get(i, i), r, letter) for i, r, letter in places}
    if word == "shrink":
        low = min(rows_of(places, k))
        return {(i - (i > k), r - (r > low), letter) for i, r, letter in places if i != k}
    row, way = parts[1:]
    x_row, o_row = (row + 1, row) if way == "up" else (row, row + 1)
    found = {(k, o_row, "X"), (k, x_row, "O")}
    for i, r, letter in places:
        height = (x_row if letter == "X" else o_row) if r == row else r + (r > row)
        found.add((i + (i >= k), height, letter))
    return found


def due_moves(grid):
    """All moves that never grow and can be done, as the document orders them."""
    size, places = len(grid), marks(grid)
    sides = (("column", "columns", places), ("row", "rows", across(places)))
    found = [("turn columns",), ("turn rows",)]
    for _, many, side in sides:
        found += [("swap " + many, k) for k in range(size) if columns_can(side, size, "swap", (k,))]
    for single, _, side in sides:
        found += [("shrink " + single, k) for k in range(size) if columns_can(side, size, "shrink", (k,))]
    return tuple(found)


def due_marks(grid, move):
    """The marks behind the move, which can be done."""
    word, side = move[0].split()
    if side in ("column", "columns"):
        return columns_done(marks(grid), len(grid), word, move[1:])
    return across(columns_done(across(marks(grid)), len(grid), word, move[1:]))


class Known(unittest.TestCase):
    def check(self, pair, move, due):
        self.assertEqual(moved(Grid(*pair), move).pair(), due)
        self.assertIs(type(moved(Grid(*pair), move)), Grid)

    def refused(self, pair, move):
        grid = Grid(*pair)
        with self.assertRaises(InvalidMove) as caught:
            moved(grid, move)
        self.assertIs(caught.exception.move, move)
        self.assertNotIn(move, moves_open(grid))

    def test_turns(self):
        self.check(LEAST, ("turn columns",), ((1, 0), (0, 1)))
        self.check(LEAST, ("turn rows",), ((1, 0), (0, 1)))
        self.check(FIVE, ("turn columns",), ((3, 0, 4, 2, 1), (0, 4, 2, 1, 3)))
        self.check(FIVE, ("turn rows",), ((0, 2, 4, 3, 1), (2, 4, 3, 1, 0)))

    def test_swaps_of_columns(self):
        pair = ((3, 1, 2, 0, 4), (0, 2, 4, 1, 3))
        # The rows of column 1 are both between those of column 0; behind the move it is the other way round.
        self.check(pair, ("swap columns", 0), ((1, 3, 2, 0, 4), (2, 0, 4, 1, 3)))
        self.check(((1, 3, 2, 0, 4), (2, 0, 4, 1, 3)), ("swap columns", 0), pair)
        # Those of column 3 are below those of column 2, those of column 4 above those of column 3.
        self.check(pair, ("swap columns", 2), ((3, 1, 0, 2, 4), (0, 2, 1, 4, 3)))
        self.check(pair, ("swap columns", 3), ((3, 1, 2, 4, 0), (0, 2, 4, 3, 1)))
        # Columns 1 and 2 have marks in one row; there is no column behind the last one.
        self.refused(pair, ("swap columns", 1))
        self.refused(pair, ("swap columns", 4))
        self.refused(pair, ("swap columns", -1))

    def test_swaps_of_rows(self):
        pair = ((3, 1, 4, 2, 0), (4, 2, 1, 0, 3))
        self.check(pair, ("swap rows", 0), ((3, 0, 4, 2, 1), (4, 2, 0, 1, 3)))
        self.check(pair, ("swap rows", 2), ((2, 1, 4, 3, 0), (4, 3, 1, 0, 2)))
        self.check(((2, 1, 4, 3, 0), (4, 3, 1, 0, 2)), ("swap rows", 2), pair)
        self.refused(pair, ("swap rows", 1))
        self.refused(pair, ("swap rows", 4))
        self.refused(pair, ("swap rows", -1))

    def test_swaps_of_marks_that_lie_across(self):
        # Of the rows of column 1 one is between those of column 0; of the columns of row 2 one between those of row 1.
        self.refused(LINKED, ("swap columns", 0))
        self.refused(LINKED, ("swap columns", 1))
        self.refused(LINKED, ("swap rows", 0))
        self.refused(LINKED, ("swap rows", 2))

    def test_swaps_across_the_seam_need_a_turn(self):
        self.refused(TWO_RINGS, ("swap columns", 3))
        self.refused(TWO_RINGS, ("swap rows", 3))
        self.check(TWO_RINGS, ("turn columns",), ((1, 2, 3, 0), (0, 3, 2, 1)))
        self.check(((1, 2, 3, 0), (0, 3, 2, 1)), ("swap columns", 2), ((1, 2, 0, 3), (0, 3, 1, 2)))
        self.check(TWO_RINGS, ("turn rows",), ((3, 0, 1, 2), (0, 3, 2, 1)))
        self.check(((3, 0, 1, 2), (0, 3, 2, 1)), ("swap rows", 2), ((2, 0, 1, 3), (0, 2, 3, 1)))

    def test_shrinks(self):
        self.check(STEPS, ("shrink column", 0), LEAST)
        self.check(STEPS, ("shrink column", 1), LEAST)
        self.check(STEPS, ("shrink row", 1), LEAST)
        self.check(STEPS, ("shrink row", 2), LEAST)
        # The O of column 2 is at the top, its X at the bottom; so with the marks of row 0.
        self.refused(STEPS, ("shrink column", 2))
        self.refused(STEPS, ("shrink row", 0))
        pair = ((3, 1, 4, 2, 0), (4, 2, 1, 0, 3))
        self.check(pair, ("shrink column", 0), ((1, 3, 2, 0), (2, 1, 0, 3)))
        self.check(pair, ("shrink column", 1), ((2, 3, 1, 0), (3, 1, 0, 2)))
        self.check(pair, ("shrink row", 0), ((2, 0, 3, 1), (3, 1, 0, 2)))
        self.check(pair, ("shrink row", 1), ((2, 3, 1, 0), (3, 1, 0, 2)))
        for k in (2, 3, 4, 5, -1):
            self.refused(pair, ("shrink column", k))
            self.refused(pair, ("shrink row", k))

    def test_shrinks_that_leave_nothing_of_a_ring(self):
        for pair in (LEAST, LEAST[::-1], TWO_RINGS):
            for k in range(len(pair[0])):
                self.refused(pair, ("shrink column", k))
                self.refused(pair, ("shrink row", k))

    def test_shrinks_across_the_seam_need_a_turn(self):
        self.refused(STEPS, ("shrink column", 2))
        turned = moved(Grid(*STEPS), ("turn rows",))
        self.assertEqual(moved(turned, ("shrink column", 2)).pair(), ((1, 0), (0, 1)))
        self.refused(STEPS, ("shrink row", 0))
        turned = moved(Grid(*STEPS), ("turn columns",))
        self.assertEqual(moved(turned, ("shrink row", 0)).pair(), ((0, 1), (1, 0)))

    def test_grows(self):
        self.check(LEAST, ("grow column", 0, 0, "up"), ((0, 1, 2), (1, 2, 0)))
        self.check(LEAST, ("grow column", 0, 0, "down"), ((1, 0, 2), (0, 2, 1)))
        self.check(LEAST, ("grow column", 0, 1, "down"), ((2, 0, 1), (1, 2, 0)))
        self.check(LEAST, ("grow column", 1, 0, "up"), ((1, 0, 2), (2, 1, 0)))
        self.check(LEAST, ("grow column", 2, 1, "up"), ((0, 2, 1), (1, 0, 2)))
        self.check(LEAST, ("grow column", 2, 1, "down"), ((0, 1, 2), (2, 0, 1)))
        self.check(LEAST, ("grow row", 0, 0, "up"), ((0, 1, 2), (2, 0, 1)))
        self.check(LEAST, ("grow row", 0, 0, "down"), ((1, 0, 2), (0, 2, 1)))
        self.check(LEAST, ("grow row", 1, 1, "down"), ((0, 2, 1), (2, 1, 0)))
        self.check(LEAST, ("grow row", 2, 1, "up"), ((0, 2, 1), (1, 0, 2)))
        self.check(LEAST, ("grow row", 2, 1, "down"), ((0, 1, 2), (1, 2, 0)))
        self.refused(LEAST, ("grow column", 3, 0, "up"))
        self.refused(LEAST, ("grow column", 0, 2, "up"))
        self.refused(LEAST, ("grow row", 3, 0, "down"))
        self.refused(LEAST, ("grow row", 0, 2, "down"))


class AllMoves(unittest.TestCase):
    def grids(self):
        return [grid for size in (2, 3, 4) for grid in all_grids(size)] + [
            grid for size in (5, 6, 7, 8) for grid in some_grids(size, 30)
        ] + [Grid(*pair) for pair in KNOWN + (EIGHT,)]

    def test_the_moves_open_are_those_that_can_be_done_in_their_order(self):
        for grid in self.grids():
            told = moves_open(grid)
            self.assertEqual(told, due_moves(grid))
            self.assertIs(type(told), tuple)
            self.assertTrue(all(type(move) is tuple for move in told))

    def test_known_moves_open(self):
        self.assertEqual(moves_open(Grid(*LEAST)), (("turn columns",), ("turn rows",)))
        self.assertEqual(
            moves_open(Grid(*TWO_RINGS)), (("turn columns",), ("turn rows",), ("swap columns", 1), ("swap rows", 1))
        )
        self.assertEqual(moves_open(Grid(*LINKED)), (("turn columns",), ("turn rows",)))
        self.assertEqual(moves_open(Grid(*TREFOIL)), (("turn columns",), ("turn rows",)))
        shrinks = [("shrink column", i) for i in range(7)] + [("shrink row", r) for r in range(1, 8)]
        self.assertEqual(moves_open(Grid(*EIGHT)), (("turn columns",), ("turn rows",)) + tuple(shrinks))

    def test_what_comes_of_moves_that_never_grow(self):
        for grid in self.grids():
            for move in moves_open(grid):
                self.assertEqual(marks(moved(grid, move)), due_marks(grid, move))

    def test_what_comes_of_moves_that_grow(self):
        grids = [grid for size in (2, 3) for grid in all_grids(size)] + some_grids(4, 5) + some_grids(5, 5)
        for grid in grids + some_grids(8, 1):
            for move in grow_moves(len(grid)):
                self.assertEqual(marks(moved(grid, move)), due_marks(grid, move))
                self.assertTrue(is_tuple_throughout(moved(grid, move).pair()))

    def test_every_other_move_of_these_words_is_refused(self):
        for grid in [grid for size in (2, 3) for grid in all_grids(size)] + some_grids(5, 10):
            size = len(grid)
            right = set(due_moves(grid)) | set(grow_moves(size))
            for word in ("turn columns", "turn rows", "swap columns", "swap rows", "shrink column", "shrink row"):
                for move in [(word,)] + [(word, k) for k in range(-size - 1, size + 2)]:
                    if move not in right:
                        with self.assertRaises(InvalidMove):
                            moved(grid, move)
            for word in ("grow column", "grow row"):
                for k in range(-2, size + 3):
                    for r in range(-2, size + 2):
                        if (word, k, r, "up") not in right:
                            with self.assertRaises(InvalidMove):
                                moved(grid, (word, k, r, "up"))

    def test_the_way_back_leads_back(self):
        for grid in self.grids():
            moves = moves_open(grid) if len(grid) > 4 else moves_open(grid) + tuple(grow_moves(len(grid))[::7])
            for move in moves:
                back = way_back(grid, move)
                self.assertIs(type(back), tuple)
                self.assertLessEqual(len(back), 200)
                self.assertTrue(all(type(one) is tuple for one in back))
                self.assertEqual(led(moved(grid, move), back), grid)
                self.assertEqual(way_back(grid, move), back)

    def test_the_way_back_of_every_growing_move(self):
        for grid in some_grids(3, 4) + some_grids(5, 2) + some_grids(8, 2):
            for move in grow_moves(len(grid)):
                self.assertEqual(led(moved(grid, move), way_back(grid, move)), grid)

    def test_size_eight_may_grow_and_shrink_again(self):
        grid = Grid(*EIGHT)
        for move in (("grow column", 8, 7, "down"), ("grow row", 0, 0, "up"), ("grow column", 0, 7, "up")):
            wide = moved(grid, move)
            self.assertEqual(len(wide), 9)
            self.assertEqual(led(wide, way_back(grid, move)), grid)
            self.assertEqual(moves_open(wide), due_moves(wide))

    def test_grids_made_of_others_may_be_moved(self):
        one, other = some_grids(8, 2)
        for grid in (beside(one, other), doubled(one), beside(Grid(*LEAST), Grid(*LEAST))):
            self.assertEqual(moves_open(grid), due_moves(grid))
            for move in moves_open(grid) + (("grow column", len(grid), 0, "up"),):
                self.assertEqual(marks(moved(grid, move)), due_marks(grid, move))
                self.assertEqual(led(moved(grid, move), way_back(grid, move)), grid)

    def test_moves_of_rows_are_those_of_columns_of_the_tipped_grid(self):
        # Tipping exchanges X and O, too, so a grown column goes the other way.
        names = {"turn columns": "turn rows", "swap columns": "swap rows", "shrink column": "shrink row"}
        for grid in some_grids(6, 20):
            for move in moves_open(tipped(grid)):
                if move[0] in names:
                    there = (names[move[0]],) + move[1:]
                    self.assertEqual(tipped(moved(grid, there)), moved(tipped(grid), move))


class WrongMoves(unittest.TestCase):
    def wrong_moves(self):
        words = ("turn columns", "turn rows", "swap columns", "swap rows", "shrink column", "shrink row")
        grid = Grid(*STEPS)
        wrong = [None, True, False, 0, 1, -1, "", "turn columns", "shrink column", (), [], grid, InvalidMove(1)]
        wrong += [("",), (0,), (None,), (True,), ((),), ([],), (grid,), (("turn columns",),), ("Turn columns",)]
        wrong += [("turn",), ("turn column",), ("turn columns ",), ("shrink columns", 0), ("grow columns", 0, 0, "up")]
        wrong += [["turn columns"], ["shrink column", 0], ["grow column", 0, 0, "up"]]
        wrong += [("turn columns", 0), ("turn rows", None), ("turn rows", ()), ("turn columns", "turn columns")]
        for word in words[2:]:
            wrong += [(word,), (word, 1, 1), (word, 0, 0), (word, 1, "up")]
            wrong += [(word, value) for value in NO_INTEGERS + (grid, 10 ** 30, -10 ** 30, (1,), ("up",))]
        for word in ("grow column", "grow row"):
            wrong += [(word,), (word, 0), (word, 0, 0), (word, 0, 0, "up", "up"), (word, "up", 0, 0), (word, 0, "up")]
            wrong += [(word, value, 0, "up") for value in NO_INTEGERS + (grid, 4, -1, 10 ** 30)]
            wrong += [(word, 0, value, "down") for value in NO_INTEGERS + (grid, 3, -1, 10 ** 30)]
            wrong += [(word, 0, 0, value) for value in NO_INTEGERS + (grid, 0, 1, "Up", "up ", "updown", "left", ["up"])]
        return wrong

    def refused(self, ask, move):
        with self.assertRaises(InvalidMove) as caught:
            ask()
        self.assertIs(caught.exception.move, move)

    def test_what_is_no_move_is_told(self):
        grid = Grid(*STEPS)
        self.assertEqual(moved(grid, ("shrink column", 0)).pair(), LEAST)
        for move in self.wrong_moves():
            with self.subTest(move=move):
                self.refused(lambda: moved(grid, move), move)
                self.refused(lambda: way_back(grid, move), move)
                self.refused(lambda: led(grid, [move]), move)
                self.refused(lambda: led(grid, (("turn rows",), move, ("turn rows",))), move)
        self.assertEqual(grid.pair(), STEPS)

    def test_bools_are_no_places(self):
        grid = Grid(*STEPS)
        for move, wrong in (
            (("shrink column", 0), ("shrink column", False)),
            (("shrink row", 1), ("shrink row", True)),
            (("grow row", 0, 1, "up"), ("grow row", False, 1, "up")),
            (("grow row", 0, 1, "up"), ("grow row", 0, True, "up")),
            (("grow column", 1, 0, "down"), ("grow column", 1, False, "down")),
        ):
            self.assertIsInstance(moved(grid, move), Grid)
            self.refused(lambda: moved(grid, wrong), wrong)
            self.refused(lambda: way_back(grid, wrong), wrong)
        self.assertIsInstance(moved(Grid(*TWO_RINGS), ("swap columns", 1)), Grid)
        wrong = ("swap columns", True)
        self.refused(lambda: moved(Grid(*TWO_RINGS), wrong), wrong)

    def test_moves_that_cannot_be_done_have_no_way_back(self):
        for pair in (LEAST, STEPS, TWO_RINGS, LINKED, TREFOIL):
            grid = Grid(*pair)
            for word in ("swap columns", "swap rows", "shrink column", "shrink row"):
                for k in range(len(grid) + 1):
                    move = (word, k)
                    if move not in moves_open(grid):
                        self.refused(lambda: way_back(grid, move), move)


class Led(unittest.TestCase):
    def test_rows_as_lists_and_as_tuples(self):
        grid = Grid(*LEAST)
        row = [("grow column", 0, 0, "up"), ("turn rows",), ("shrink row", 0)]
        self.assertEqual(led(grid, row).pair(), ((1, 0), (0, 1)))
        self.assertEqual(led(grid, tuple(row)), led(grid, row))
        self.assertEqual(row, [("grow column", 0, 0, "up"), ("turn rows",), ("shrink row", 0)])

    def test_no_moves_lead_nowhere(self):
        for pair in KNOWN:
            for none in ((), []):
                self.assertEqual(led(Grid(*pair), none), Grid(*pair))
                self.assertIs(type(led(Grid(*pair), none)), Grid)

    def test_one_after_another(self):
        for grid in some_grids(6, 10):
            end, row = grid, []
            for k in range(30):
                moves = moves_open(end) if k % 3 else grow_moves(len(end))[k:k + 1]
                row.append(moves[k % len(moves)])
                end = moved(end, row[-1])
                if len(end) < 3:
                    break
            self.assertEqual(led(grid, row), end)

    def test_the_first_wrong_one_is_told(self):
        grid = Grid(*STEPS)
        first, later = ["turn rows"], ("swap columns", True)
        for row in (
            [first, later], [("turn rows",), first, later], (("turn rows",), ("shrink row", 0), first, ("turn rows",)),
        ):
            with self.assertRaises(InvalidMove) as caught:
                led(grid, row)
            self.assertIs(caught.exception.move, first)
        # The second shrink could be done at first, but no more behind the first one.
        with self.assertRaises(InvalidMove) as caught:
            led(grid, [("shrink column", 0), ("shrink column", 1), None])
        self.assertEqual(caught.exception.move, ("shrink column", 1))

    def test_a_wrong_last_one_is_told(self):
        for wrong in (None, True, 3, "turn rows", ("turn rows", 0), [("turn rows",)]):
            with self.assertRaises(InvalidMove) as caught:
                led(Grid(*FIVE), [("turn rows",), ("turn columns",), wrong])
            self.assertIs(caught.exception.move, wrong)

    def test_two_hundred_moves(self):
        grid = Grid(*EIGHT)
        self.assertEqual(led(grid, [("turn rows",)] * 200), grid)
        row = [("grow column", 0, 0, "up"), ("shrink column", 0)] * 100
        self.assertEqual(led(grid, row), grid)


class Basics(unittest.TestCase):
    def test_parameters_by_name(self):
        grid = Grid(*STEPS)
        self.assertEqual(moved(move=("shrink column", 0), grid=grid).pair(), LEAST)
        self.assertEqual(moves_open(grid=grid), moves_open(grid))
        self.assertEqual(led(moves=[("shrink column", 0)], grid=grid).pair(), LEAST)
        self.assertEqual(way_back(move=("turn rows",), grid=grid), way_back(grid, ("turn rows",)))

    def test_nothing_changes_and_the_same_is_told_again(self):
        one, other = Grid(*STEPS), Grid(*FIVE)
        asked = [
            lambda grid: moved(grid, ("turn rows",)).pair(),
            lambda grid: moved(grid, ("grow row", 1, 1, "down")).pair(),
            moves_open,
            lambda grid: led(grid, [("turn columns",)] * 3).pair(),
            lambda grid: way_back(grid, ("turn columns",)),
            lambda grid: way_back(grid, ("grow column", 1, 2, "down")),
        ]
        first = [ask(one) for ask in asked]
        between = [ask(other) for ask in asked]
        self.assertEqual([ask(Grid(list(STEPS[0]), list(STEPS[1]))) for ask in asked], first)
        self.assertEqual([ask(other) for ask in asked], between)
        self.assertEqual([one.pair(), other.pair()], [STEPS, FIVE])

    def test_an_error_changes_neither_the_grid_nor_the_row(self):
        grid = Grid(*FIVE)
        row = [("turn rows",), ["turn rows"], ("turn rows",)]
        with self.assertRaises(KnotError):
            led(grid, row)
        self.assertEqual(row, [("turn rows",), ["turn rows"], ("turn rows",)])
        self.assertEqual(grid.pair(), FIVE)

    def test_upside_down_the_same_moves_can_be_done_from_the_other_end(self):
        for grid in some_grids(5, 20):
            size = len(grid)
            for move in moves_open(grid):
                if move[0].startswith("swap"):
                    there = (move[0], size - 2 - move[1])
                    self.assertEqual(moved(upside_down(grid), there), upside_down(moved(grid, move)))
                if move[0].startswith("shrink"):
                    there = (move[0], size - 1 - move[1])
                    self.assertEqual(moved(upside_down(grid), there), upside_down(moved(grid, move)))


if __name__ == "__main__":
    unittest.main()
