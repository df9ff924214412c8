"""The examples of section 10 of the document, and the interface at its end, as far as they have landed."""

import importlib
import inspect
import unittest

from gridknot.errors import InvalidGrid, InvalidMove, InvalidNumber, InvalidText, KnotError, Undefined
from gridknot.grids import Grid, o_column, read_grid, x_column
from gridknot.strands import crossings, linkings, ring_of, rings, sign_at, twist

INTERFACE = {
    "errors": {
        "KnotError": None,
        "InvalidGrid": ("value",),
        "InvalidText": ("text", "at"),
        "InvalidMove": ("move",),
        "InvalidNumber": ("value",),
        "InvalidClaim": ("value",),
        "InvalidQuestion": ("value",),
        "InvalidDeed": ("value",),
        "Undefined": ("what",),
        "NothingToUndo": ("deed",),
    },
    "grids": {
        "Grid": ("xs", "ohs"),
        "x_column": ("grid", "r"),
        "o_column": ("grid", "r"),
        "read_grid": ("text",),
    },
    "strands": {
        "rings": ("grid",),
        "ring_of": ("grid", "i"),
        "crossings": ("grid",),
        "sign_at": ("grid", "i", "r"),
        "twist": ("grid",),
        "linkings": ("grid",),
    },
}


class Examples(unittest.TestCase):
    def test_an_error_keeps_its_move(self):
        e = InvalidMove(("swap rows", 9))
        self.assertEqual(
            [isinstance(e, KnotError), e.move, isinstance(e, ValueError)], [True, ("swap rows", 9), True]
        )

    def test_the_least_grid(self):
        g = Grid((0, 1), (1, 0))
        self.assertEqual(
            [g.pair(), len(g), g == Grid([0, 1], [1, 0]), str(g)], [((0, 1), (1, 0)), 2, True, "OX\nXO"]
        )

    def test_two_marks_in_one_place(self):
        with self.assertRaises(InvalidGrid) as caught:
            Grid((0, 1), (0, 1))
        self.assertEqual(caught.exception.value, ((0, 1), (0, 1)))

    def test_a_text_is_read_and_told(self):
        h = read_grid("XO.\n.XO\nO.X")
        self.assertEqual([h.pair(), str(h)], [((2, 1, 0), (0, 2, 1)), "XO.\n.XO\nO.X"])

    def test_a_wrong_text(self):
        with self.assertRaises(InvalidText):
            read_grid("XX\nOO")

    def test_columns_of_marks(self):
        h = Grid((0, 1, 2), (1, 2, 0))
        self.assertEqual([x_column(h, 2), o_column(h, 1), x_column(h, 1), o_column(h, 0)], [2, 0, 1, 2])

    def test_a_row_beyond_the_size(self):
        with self.assertRaises(InvalidNumber) as caught:
            x_column(Grid((0, 1, 2), (1, 2, 0)), 3)
        self.assertEqual(caught.exception.value, 3)

    def test_rings(self):
        h = Grid((0, 1, 2), (1, 2, 0))
        b = Grid((0, 1, 2, 3), (1, 0, 3, 2))
        self.assertEqual([rings(h), rings(b), ring_of(b, 3)], [((0, 1, 2),), ((0, 1), (2, 3)), 1])

    def test_crossings_and_signs(self):
        k = Grid((1, 3, 0, 4, 2), (3, 0, 4, 2, 1))
        self.assertEqual(
            [crossings(k), sign_at(k, 1, 1), sign_at(k, 2, 1), twist(k)], [((1, 1), (2, 1)), -1, 1, 0]
        )

    def test_what_the_doubled_least_grid_tells(self):
        # What the document's doubled makes of the least grid, written out.
        d = Grid((0, 1, 2, 3), (2, 3, 0, 1))
        b = Grid((0, 1, 2, 3), (1, 0, 3, 2))
        self.assertEqual(rings(d), ((0, 2), (1, 3)))
        self.assertEqual(
            [crossings(d), twist(d), linkings(d), linkings(b)],
            [((1, 2), (2, 1)), -2, ((0, -1), (-1, 0)), ((0, 0), (0, 0))],
        )

    def test_no_crossing(self):
        with self.assertRaises(Undefined) as caught:
            sign_at(Grid((0, 1, 2), (1, 2, 0)), 0, 0)
        self.assertEqual(caught.exception.what, "crossing")


class Interface(unittest.TestCase):
    def test_names_stand_in_their_files_with_their_parameters(self):
        for file, names in INTERFACE.items():
            module = importlib.import_module("gridknot." + file)
            for name, parameters in names.items():
                found = getattr(module, name)
                self.assertEqual(found.__module__, "gridknot." + file)
                if parameters is not None:
                    self.assertEqual(tuple(inspect.signature(found).parameters), parameters)

    def test_the_methods_of_a_grid_stand_in_its_class(self):
        for name in ("__init__", "__eq__", "__len__", "__str__", "pair"):
            self.assertTrue(inspect.isfunction(vars(Grid)[name]))

    def test_the_attributes_of_a_grid_are_set_when_it_is_made(self):
        self.assertEqual(vars(Grid([0, 1], [1, 0])), {"xs": (0, 1), "ohs": (1, 0)})


if __name__ == "__main__":
    unittest.main()
