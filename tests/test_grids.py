"""[5] and [8]: grids, their rows and columns, and their texts."""

import unittest
from itertools import product
from unittest.mock import ANY

from gridknot.errors import InvalidGrid, InvalidNumber, InvalidText, Undefined
from gridknot.grids import Grid, o_column, read_grid, x_column
from support import FIVE, LEAST, NO_INTEGERS, STEPS, TWO_RINGS, all_grids, all_pairs

WRONG_PAIRS = (
    # too short, or of unlike lengths
    ((), ()),
    ((0,), (0,)),
    ((0,), (1,)),
    ((0, 1), ()),
    ((), (0, 1)),
    ((0, 1), (1,)),
    ((1,), (1, 0)),
    ((0, 1), (1, 0, 2)),
    ((0, 1, 2), (1, 0)),
    ((0, 1, 2), (1, 2, 0, 3)),
    # a number twice, another one left out
    ((0, 0), (1, 1)),
    ((0, 0), (1, 0)),
    ((0, 1), (1, 1)),
    ((0, 0, 1), (1, 2, 0)),
    ((0, 1, 2), (1, 0, 0)),
    ((1, 1, 2, 3), (0, 2, 3, 1)),
    # numbers beyond the size, and below 0
    ((1, 2), (2, 1)),
    ((0, 2), (1, 0)),
    ((0, 1), (2, 0)),
    ((0, -1), (1, 0)),
    ((-1, -2), (-2, -1)),
    ((0, 1), (-1, 0)),
    ((0, 1, 2), (1, 2, -3)),
    ((0, 10 ** 30), (10 ** 30, 0)),
    # the other row's at its place
    ((0, 1), (0, 1)),
    ((1, 0), (1, 0)),
    ((0, 1, 2), (0, 2, 1)),
    ((0, 1, 2), (1, 0, 2)),
    ((2, 0, 1, 3), (0, 3, 1, 2)),
    # no sequences
    (None, None),
    (None, (1, 0)),
    ((0, 1), None),
    (2, 2),
    (True, False),
    ("01", "10"),
    ((0, 1), "10"),
    ("01", (1, 0)),
    ("XO", "OX"),
    # sequences of other things than numbers
    ((False, True), (True, False)),
    ((0, 1), (True, False)),
    ((False, 1), (1, 0)),
    ((0, True), (1, 0)),
    ((0, 1), (1, False)),
    ((None, None), (None, None)),
    ((0, 1), (1, None)),
    (("0", "1"), ("1", "0")),
    ((0, 1), ("1", 0)),
    (((0,), (1,)), ((1,), (0,))),
    (([0], 1), (1, 0)),
    ((0, []), (1, 0)),
)


class MakingGrids(unittest.TestCase):
    def test_attributes_pair_and_size(self):
        for size in (2, 3, 4):
            for xs, ohs in all_pairs(size):
                grid = Grid(xs, ohs)
                self.assertEqual((grid.xs, grid.ohs), (xs, ohs))
                self.assertEqual(grid.pair(), (xs, ohs))
                self.assertEqual(len(grid), size)

    def test_lists_and_tuples_may_be_passed_and_tuples_are_kept(self):
        for make in (list, tuple):
            for made in (list, tuple):
                grid = Grid(make(FIVE[0]), made(FIVE[1]))
                self.assertEqual(grid.pair(), FIVE)
                self.assertIs(type(grid.xs), tuple)
                self.assertIs(type(grid.ohs), tuple)
                self.assertIs(type(grid.pair()), tuple)
                self.assertEqual(len(grid), 5)

    def test_parameters_by_name(self):
        self.assertEqual(Grid(ohs=LEAST[1], xs=LEAST[0]).pair(), LEAST)

    def test_every_pair_of_small_numbers_makes_a_grid_or_is_told(self):
        for size in (2, 3):
            grids = set(all_pairs(size))
            rows = list(product(range(-1, size + 1), repeat=size))
            for xs, ohs in product(rows, rows):
                if (xs, ohs) in grids:
                    self.assertEqual(Grid(xs, ohs).pair(), (xs, ohs))
                else:
                    with self.assertRaises(InvalidGrid) as caught:
                        Grid(xs, ohs)
                    self.assertEqual(caught.exception.value, (xs, ohs))

    def test_wrong_pairs_are_told(self):
        for xs, ohs in WRONG_PAIRS:
            with self.subTest(xs=xs, ohs=ohs):
                with self.assertRaises(InvalidGrid) as caught:
                    Grid(xs, ohs)
                value = caught.exception.value
                self.assertIs(type(value), tuple)
                self.assertEqual(len(value), 2)
                self.assertIs(value[0], xs)
                self.assertIs(value[1], ohs)

    def test_wrong_lists_are_kept_themselves(self):
        for xs, ohs in ([[0, 0], [1, 1]], [[0, 1], [0, 1]], [[0], [1]], [[0, True], [1, 0]]):
            with self.assertRaises(InvalidGrid) as caught:
                Grid(xs, ohs)
            self.assertIs(caught.exception.value[0], xs)
            self.assertIs(caught.exception.value[1], ohs)

    def test_grids_are_no_sequences(self):
        least = Grid(*LEAST)
        for xs, ohs in ((least, least), (least, LEAST[1]), (LEAST[0], least), ((least, least), LEAST[1])):
            with self.assertRaises(InvalidGrid):
                Grid(xs, ohs)


class EqualGrids(unittest.TestCase):
    def test_grids_are_equal_if_both_parts_are(self):
        pairs = all_pairs(2) + all_pairs(3)
        for one in pairs:
            for other in pairs:
                self.assertIs(Grid(*one) == Grid(*other), one == other)
                self.assertIs(Grid(*one) != Grid(*other), one != other)

    def test_one_part_alone_is_not_enough(self):
        grid = Grid((0, 1, 2), (1, 2, 0))
        self.assertFalse(grid == Grid((0, 1, 2), (2, 0, 1)))
        self.assertFalse(grid == Grid((2, 0, 1), (1, 2, 0)))

    def test_a_grid_is_equal_to_nothing_else(self):
        grid = Grid(*LEAST)
        others = [LEAST, list(LEAST), LEAST[0], str(grid), 2, None, True, False, (), "", ANY, Grid, InvalidGrid(LEAST)]
        for other in others:
            self.assertIs(grid == other, False)
            self.assertIs(grid != other, True)

    def test_what_looks_like_a_grid_is_none(self):
        class Alike:
            xs, ohs = LEAST

            def pair(self):
                return LEAST

        self.assertFalse(Grid(*LEAST) == Alike())


class RowsOfMarks(unittest.TestCase):
    def test_columns_of_the_marks_of_each_row(self):
        for size in (2, 3, 4):
            for grid in all_grids(size):
                for r in range(size):
                    self.assertEqual(grid.xs[x_column(grid, r)], r)
                    self.assertEqual(grid.ohs[o_column(grid, r)], r)

    def test_known_columns(self):
        grid = Grid(*FIVE)
        self.assertEqual([x_column(grid, r) for r in range(5)], [2, 0, 4, 1, 3])
        self.assertEqual([o_column(grid, r) for r in range(5)], [1, 4, 3, 0, 2])

    def test_what_is_no_row_is_told(self):
        for pair in (LEAST, STEPS, FIVE):
            grid = Grid(*pair)
            size = len(grid)
            for wrong in (-1, -size, size, size + 1, 10 ** 30, -10 ** 30, grid) + NO_INTEGERS:
                for asked in (x_column, o_column):
                    with self.subTest(asked=asked, wrong=wrong):
                        with self.assertRaises(InvalidNumber) as caught:
                            asked(grid, wrong)
                        self.assertIs(caught.exception.value, wrong)

    def test_parameters_by_name(self):
        grid = Grid(*STEPS)
        self.assertEqual((x_column(r=2, grid=grid), o_column(r=2, grid=grid)), (2, 1))


class WritingTexts(unittest.TestCase):
    def test_known_texts(self):
        self.assertEqual(str(Grid((0, 1), (1, 0))), "OX\nXO")
        self.assertEqual(str(Grid((1, 0), (0, 1))), "XO\nOX")
        self.assertEqual(str(Grid(*STEPS)), ".OX\nOX.\nX.O")
        self.assertEqual(str(Grid(*TWO_RINGS)), "..OX\n..XO\nOX..\nXO..")
        self.assertEqual(str(Grid(*FIVE)), "..OX.\nOX...\n...OX\nX...O\n.OX..")

    def test_each_mark_stands_in_its_row_and_column(self):
        for size in (2, 3, 4):
            for grid in all_grids(size):
                lines = str(grid).split("\n")
                self.assertEqual(len(lines), size)
                for i, r in product(range(size), range(size)):
                    mark = lines[size - 1 - r][i]
                    due = "X" if grid.xs[i] == r else "O" if grid.ohs[i] == r else "."
                    self.assertEqual(mark, due)
                self.assertEqual([len(line) for line in lines], [size] * size)


class ReadingTexts(unittest.TestCase):
    def refused(self, text):
        with self.assertRaises(InvalidText) as caught:
            read_grid(text)
        self.assertEqual(caught.exception.text, text)
        self.assertIs(type(caught.exception.at), int)
        self.assertTrue(0 <= caught.exception.at <= len(text))

    def test_each_grid_is_read_from_its_text(self):
        for size in (2, 3, 4):
            for grid in all_grids(size):
                read = read_grid(str(grid))
                self.assertIs(type(read), Grid)
                self.assertEqual(read, grid)
                self.assertIs(type(read.xs), tuple)
                self.assertIs(type(read.ohs), tuple)

    def test_size_eight(self):
        grid = Grid((3, 1, 4, 0, 5, 7, 2, 6), (7, 6, 5, 4, 3, 2, 1, 0))
        self.assertEqual(read_grid(text=str(grid)), grid)

    def test_every_short_string_is_a_grid_or_is_told(self):
        texts = {"OX\nXO": ((0, 1), (1, 0)), "XO\nOX": ((1, 0), (0, 1))}
        for length in range(7):
            for signs in product("XO.\n", repeat=length):
                text = "".join(signs)
                if text in texts:
                    self.assertEqual(read_grid(text).pair(), texts[text])
                else:
                    self.refused(text)

    def test_texts_with_one_place_changed(self):
        texts = [str(grid) for size in (2, 3) for grid in all_grids(size)]
        right = set(texts)
        for text in texts:
            for at in range(len(text) + 1):
                changed = [text[:at] + sign + text[at:] for sign in "XO.\n x0"]
                changed += [text[:at] + sign + text[at + 1:] for sign in ("", "X", "O", ".", "\n", " ", "x", "\r")]
                for wrong in changed:
                    if wrong not in right:
                        self.refused(wrong)

    def test_marks_twice_in_a_line_or_a_column(self):
        for text in (
            "XX\nOO", "XO\nXO", "OX\nOX", "XX\nXX", "..\n..",
            "XO.\nXO.\nXO.", "XO.\nX.O\n.XO", "XO.\n.OX\nO.X", "XXO\nOX.\nX.O", "XO.\n...\nO.X", "X..\n.XO\nO.X",
        ):
            self.refused(text)

    def test_other_ends_of_lines_and_other_signs(self):
        for text in (
            "", "\n", "\n\n", "X", "O", ".", "XO", "OX",
            "OX\nXO\n", "\nOX\nXO", "OX\n\nXO", "OX\r\nXO", "OX\rXO", "OX\x0bXO", "OX\u2028XO", "OX\x00XO",
            " OX\nXO", "OX \nXO", "OX\nXO ", "ox\nxo", "0X\nX0", "O\u0425\nXO", "OX\\nXO",
            "XO \n XO\nO X", "XO.\n.XO", "XO\n.XO\nO.X", "XO..\n.XO.\nO.X.",
        ):
            self.refused(text)

    def test_long_texts(self):
        for text in ("X" * 2000000, "\n" * 2000000, ".\n" * 1000000, "XO\n" * 600000):
            self.refused(text)

    def test_a_large_grid(self):
        size = 1000
        grid = Grid(range_from(0, size), range_from(1, size))
        self.assertEqual(read_grid(str(grid)), grid)

    def test_the_place_told_is_where_the_first_wrong_line_begins_or_a_mark_stands_twice(self):
        for text, at in (("", 0), ("OX\nX.", 3), ("OX\nOX", 4), ("XO.\n.XO\nOX.", 9), ("XO.\n.OX\nO.X", 5)):
            with self.assertRaises(InvalidText) as caught:
                read_grid(text)
            self.assertEqual(caught.exception.at, at)


def range_from(first, size):
    return [(first + i) % size for i in range(size)]


class Basics(unittest.TestCase):
    def test_grids_are_not_iterable(self):
        grid = Grid(*LEAST)
        for ask in (iter, list, tuple, reversed, lambda value: 0 in value, lambda value: value[0]):
            with self.assertRaises(TypeError):
                ask(grid)

    def test_lists_that_are_passed_are_not_changed_and_may_change_later(self):
        xs, ohs = list(FIVE[0]), list(FIVE[1])
        grid = Grid(xs, ohs)
        text = str(grid)
        self.assertEqual((xs, ohs), (list(FIVE[0]), list(FIVE[1])))
        xs[0] = 9
        ohs.clear()
        self.assertEqual(grid.pair(), FIVE)
        self.assertEqual(len(grid), 5)
        self.assertEqual(str(grid), text)
        self.assertEqual(x_column(grid, 1), 0)

    def test_asking_twice_with_others_in_between(self):
        one, other = Grid(*STEPS), Grid(*FIVE)
        asked = [lambda grid: str(grid), lambda grid: grid.pair(), len,
                 lambda grid: x_column(grid, 1), lambda grid: o_column(grid, 1)]
        first = [ask(one) for ask in asked]
        between = [ask(other) for ask in asked]
        self.assertEqual([ask(one) for ask in asked], first)
        self.assertEqual([ask(other) for ask in asked], between)
        self.assertNotEqual(first, between)

    def test_an_error_changes_no_grid(self):
        grid = Grid(*STEPS)
        for ask in (lambda: x_column(grid, 3), lambda: o_column(grid, True), lambda: Grid(grid.xs, grid.xs)):
            with self.assertRaises(ValueError) as caught:
                ask()
            self.assertNotIsInstance(caught.exception, Undefined)
        self.assertEqual(grid.pair(), STEPS)


if __name__ == "__main__":
    unittest.main()
