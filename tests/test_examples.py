"""The examples of section 10 of the document, and the interface at its end."""

import importlib
import inspect
import unittest

from gridknot.alexander import alexander
from gridknot.alike import alike_holds, search_alike
from gridknot.apart import apart_claim, apart_holds, apart_paper
from gridknot.brackets import bracket, kept_bracket
from gridknot.claims import answer_of, claim_holds, is_claim, is_question, paper_of, refute
from gridknot.colours import colourings, colours_claim, colours_holds, is_colouring
from gridknot.desk import Desk, same_state
from gridknot.errors import (
    InvalidClaim, InvalidDeed, InvalidGrid, InvalidMove, InvalidNumber, InvalidQuestion, InvalidText, KnotError,
    NothingToUndo, Undefined,
)
from gridknot.families import family, family_moves, first_turn, least_size, parted_at, smallest
from gridknot.grids import Grid, o_column, read_grid, x_column
from gridknot.histories import paper_end, paper_holds, relived
from gridknot.making import beside, doubled, mirrored, summed, tipped, turned_about, upside_down
from gridknot.moves import led, moved, moves_open, way_back
from gridknot.plain import ring_claim, ring_holds
from gridknot.series import is_series, series_at, series_plus, series_text, series_times
from gridknot.strands import crossings, linkings, ring_of, rings, sign_at, twist
from gridknot.told import told, untold
from gridknot.unlike import unlike_holds, unlike_paper
from gridknot.ways import ways

INTERFACE = {
    "errors": {
        "KnotError": None,
        "InvalidGrid": ("value",),
        "InvalidText": ("text", "at"),
        "InvalidMove": ("move",),
        "InvalidNumber": ("value",),
        "InvalidClaim": ("value",),
        "InvalidQuestion": ("value",),
        "InvalidDeed": ("value",),
        "Undefined": ("what",),
        "NothingToUndo": ("deed",),
    },
    "grids": {
        "Grid": ("xs", "ohs"),
        "x_column": ("grid", "r"),
        "o_column": ("grid", "r"),
        "read_grid": ("text",),
    },
    "strands": {
        "rings": ("grid",),
        "ring_of": ("grid", "i"),
        "crossings": ("grid",),
        "sign_at": ("grid", "i", "r"),
        "twist": ("grid",),
        "linkings": ("grid",),
    },
    "moves": {
        "moved": ("grid", "move"),
        "moves_open": ("grid",),
        "led": ("grid", "moves"),
        "way_back": ("grid", "move"),
    },
    "alike": {
        "alike_holds": ("grid", "claim", "paper"),
        "search_alike": ("grid", "other", "depth"),
    },
    "making": {
        "mirrored": ("grid",),
        "tipped": ("grid",),
        "turned_about": ("grid",),
        "upside_down": ("grid",),
        "beside": ("one", "other"),
        "summed": ("one", "i", "other", "j"),
        "doubled": ("grid",),
    },
    "colours": {
        "is_colouring": ("grid", "p", "value"),
        "colourings": ("grid", "p"),
        "colours_claim": ("grid", "p"),
        "colours_paper": ("grid", "p"),
        "colours_holds": ("grid", "claim", "paper"),
    },
    "ways": {
        "ways": ("grid", "m"),
    },
    "series": {
        "is_series": ("value",),
        "series_plus": ("a", "b"),
        "series_times": ("a", "b"),
        "series_at": ("a", "top", "bottom"),
        "series_text": ("a", "name"),
    },
    "alexander": {
        "alexander": ("grid",),
    },
    "brackets": {
        "bracket": ("grid",),
        "kept_bracket": ("grid",),
    },
    "families": {
        "first_turn": ("grid",),
        "family": ("grid",),
        "parted_at": ("grid",),
        "least_size": ("grid",),
        "smallest": ("grid",),
        "family_moves": ("grid", "xs", "ohs"),
    },
    "plain": {
        "ring_claim": ("grid",),
        "ring_paper": ("grid",),
        "ring_holds": ("grid", "claim", "paper"),
    },
    "apart": {
        "apart_claim": ("grid",),
        "apart_paper": ("grid",),
        "apart_holds": ("grid", "claim", "paper"),
    },
    "unlike": {
        "unlike_paper": ("grid", "other"),
        "unlike_holds": ("grid", "claim", "paper"),
    },
    "claims": {
        "is_question": ("value",),
        "answer_of": ("grid", "question"),
        "paper_of": ("grid", "question"),
        "is_claim": ("value",),
        "claim_holds": ("grid", "claim", "paper"),
        "refute": ("grid", "claim"),
    },
    "told": {
        "told": ("value",),
        "untold": ("text",),
    },
    "desk": {
        "Desk": ("grid",),
        "same_state": ("one", "other"),
    },
    "histories": {
        "paper_holds": ("text",),
        "paper_end": ("text",),
        "relived": ("text",),
    },
}


class Examples(unittest.TestCase):
    def test_an_error_keeps_its_move(self):
        e = InvalidMove(("swap rows", 9))
        self.assertEqual(
            [isinstance(e, KnotError), e.move, isinstance(e, ValueError)], [True, ("swap rows", 9), True]
        )

    def test_the_least_grid(self):
        g = Grid((0, 1), (1, 0))
        self.assertEqual(
            [g.pair(), len(g), g == Grid([0, 1], [1, 0]), str(g)], [((0, 1), (1, 0)), 2, True, "OX\nXO"]
        )

    def test_two_marks_in_one_place(self):
        with self.assertRaises(InvalidGrid) as caught:
            Grid((0, 1), (0, 1))
        self.assertEqual(caught.exception.value, ((0, 1), (0, 1)))

    def test_a_text_is_read_and_told(self):
        h = read_grid("XO.\n.XO\nO.X")
        self.assertEqual([h.pair(), str(h)], [((2, 1, 0), (0, 2, 1)), "XO.\n.XO\nO.X"])

    def test_a_wrong_text(self):
        with self.assertRaises(InvalidText):
            read_grid("XX\nOO")

    def test_columns_of_marks(self):
        h = Grid((0, 1, 2), (1, 2, 0))
        self.assertEqual([x_column(h, 2), o_column(h, 1), x_column(h, 1), o_column(h, 0)], [2, 0, 1, 2])

    def test_a_row_beyond_the_size(self):
        with self.assertRaises(InvalidNumber) as caught:
            x_column(Grid((0, 1, 2), (1, 2, 0)), 3)
        self.assertEqual(caught.exception.value, 3)

    def test_rings(self):
        h = Grid((0, 1, 2), (1, 2, 0))
        b = Grid((0, 1, 2, 3), (1, 0, 3, 2))
        d = doubled(Grid((0, 1), (1, 0)))
        self.assertEqual(
            [rings(h), rings(b), rings(d), ring_of(b, 3)], [((0, 1, 2),), ((0, 1), (2, 3)), ((0, 2), (1, 3)), 1]
        )

    def test_crossings_and_signs(self):
        k = Grid((1, 3, 0, 4, 2), (3, 0, 4, 2, 1))
        self.assertEqual(
            [crossings(k), sign_at(k, 1, 1), sign_at(k, 2, 1), twist(k)], [((1, 1), (2, 1)), -1, 1, 0]
        )

    def test_what_the_doubled_least_grid_tells(self):
        d = doubled(Grid((0, 1), (1, 0)))
        b = Grid((0, 1, 2, 3), (1, 0, 3, 2))
        self.assertEqual(
            [crossings(d), twist(d), linkings(d), linkings(b)],
            [((1, 2), (2, 1)), -2, ((0, -1), (-1, 0)), ((0, 0), (0, 0))],
        )

    def test_no_crossing(self):
        with self.assertRaises(Undefined) as caught:
            sign_at(Grid((0, 1, 2), (1, 2, 0)), 0, 0)
        self.assertEqual(caught.exception.what, "crossing")

    def test_moves_that_never_grow(self):
        h = Grid((0, 1, 2), (1, 2, 0))
        self.assertEqual(
            [moved(h, ("turn columns",)).pair(), moved(h, ("turn rows",)).pair(),
             moved(h, ("shrink column", 0)).pair()],
            [((1, 2, 0), (2, 0, 1)), ((2, 0, 1), (0, 1, 2)), ((0, 1), (1, 0))],
        )

    def test_a_move_that_grows(self):
        g = Grid((0, 1), (1, 0))
        self.assertEqual(moved(g, ("grow column", 0, 0, "up")).pair(), ((0, 1, 2), (1, 2, 0)))

    def test_the_moves_open(self):
        h = Grid((0, 1, 2), (1, 2, 0))
        self.assertEqual(
            moves_open(h),
            (("turn columns",), ("turn rows",), ("shrink column", 0), ("shrink column", 1), ("shrink row", 1),
             ("shrink row", 2)),
        )

    def test_a_move_that_cannot_be_done(self):
        with self.assertRaises(InvalidMove) as caught:
            moved(Grid((0, 1), (1, 0)), ("shrink column", 0))
        self.assertEqual(caught.exception.move, ("shrink column", 0))

    def test_rows_of_moves_there_and_back(self):
        g = Grid((0, 1), (1, 0))
        h = Grid((0, 1, 2), (1, 2, 0))
        self.assertEqual(
            [led(g, (("grow column", 0, 0, "up"), ("shrink column", 0))) == g,
             led(moved(h, ("turn rows",)), way_back(h, ("turn rows",))) == h],
            [True, True],
        )

    def test_a_row_with_a_move_that_cannot_be_done(self):
        with self.assertRaises(InvalidMove) as caught:
            led(Grid((0, 1, 2), (1, 2, 0)), [("turn rows",), ("swap columns", 0)])
        self.assertEqual(caught.exception.move, ("swap columns", 0))

    def test_alike_grids(self):
        g = Grid((0, 1), (1, 0))
        h = Grid((0, 1, 2), (1, 2, 0))
        self.assertEqual(
            [alike_holds(g, ("alike", (0, 1, 2), (1, 2, 0)), (("grow column", 0, 0, "up"),)),
             alike_holds(g, ("alike", (0, 1, 2), (1, 2, 0)), ()), search_alike(h, g, 1), search_alike(g, g, 0),
             search_alike(g, h, 2)],
            [True, False, (("shrink column", 0),), (), None],
        )

    def test_a_search_that_is_too_deep(self):
        g = Grid((0, 1), (1, 0))
        with self.assertRaises(InvalidNumber) as caught:
            search_alike(g, g, 5)
        self.assertEqual(caught.exception.value, 5)

    def test_grids_made_of_one(self):
        h = Grid((0, 1, 2), (1, 2, 0))
        self.assertEqual(
            [mirrored(h).pair(), tipped(h).pair(), turned_about(h).pair(), upside_down(h).pair()],
            [((2, 1, 0), (0, 2, 1)), ((2, 0, 1), (0, 1, 2)), ((1, 2, 0), (0, 1, 2)), ((0, 1, 2), (2, 0, 1))],
        )

    def test_grids_made_of_two(self):
        g = Grid((0, 1), (1, 0))
        self.assertEqual(
            [beside(g, g).pair(), summed(g, 0, g, 0).pair(), doubled(g).pair()],
            [((0, 1, 2, 3), (1, 0, 3, 2)), ((0, 2, 1), (1, 0, 2)), ((0, 1, 2, 3), (2, 3, 0, 1))],
        )

    def test_a_sum_at_no_column(self):
        g = Grid((0, 1), (1, 0))
        with self.assertRaises(InvalidNumber) as caught:
            summed(g, 0, g, 2)
        self.assertEqual(caught.exception.value, 2)

    def test_colourings(self):
        k = Grid((1, 3, 0, 4, 2), (3, 0, 4, 2, 1))
        b = Grid((0, 1, 2, 3), (1, 0, 3, 2))
        g = Grid((0, 1), (1, 0))
        self.assertEqual(
            [colourings(k, 3), is_colouring(k, 3, (1, 1, 1, 1, 1)), is_colouring(k, 3, (0, 1, 1, 1, 1)),
             colours_claim(b, 3), colours_holds(g, ("colours", 5, 5), (((1, 1),), (0,)))],
            [3, True, False, ("colours", 3, 9), True],
        )

    def test_colourings_by_no_prime(self):
        with self.assertRaises(InvalidNumber) as caught:
            colourings(Grid((0, 1), (1, 0)), 4)
        self.assertEqual(caught.exception.value, 4)

    def test_ways(self):
        g = Grid((0, 1), (1, 0))
        h = Grid((0, 1, 2), (1, 2, 0))
        self.assertEqual([ways(g, 1), ways(h, 2), ways(h, 3)], [1, 2, 6])

    def test_ways_of_too_many_points(self):
        with self.assertRaises(InvalidNumber) as caught:
            ways(Grid((0, 1), (1, 0)), 4)
        self.assertEqual(caught.exception.value, 4)

    def test_series(self):
        self.assertEqual(
            [series_plus(((0, 1),), ((0, -1), (2, 3))), series_times(((0, 1), (1, 1)), ((0, 1), (1, -1))),
             series_at(((0, 1), (1, 2)), 1, 2), series_at(((-1, 1),), 2, 3),
             series_text(((-2, -1), (0, 3), (1, 2)), "t"), series_text((), "t"), is_series(((1, 0),))],
            [((2, 3),), ((0, 1), (2, -1)), (2, 1), (3, 2), "-t^-2+3+2*t", "0", False],
        )

    def test_a_series_at_nothing(self):
        with self.assertRaises(Undefined) as caught:
            series_at(((0, 1),), 0, 1)
        self.assertEqual(caught.exception.what, "value")

    def test_alexander(self):
        g = Grid((0, 1), (1, 0))
        k = Grid((1, 3, 0, 4, 2), (3, 0, 4, 2, 1))
        b = Grid((0, 1, 2, 3), (1, 0, 3, 2))
        self.assertEqual([alexander(g), alexander(k), alexander(b)], [((0, 1),), ((0, 1),), ()])

    def test_brackets(self):
        g = Grid((0, 1), (1, 0))
        b = Grid((0, 1, 2, 3), (1, 0, 3, 2))
        k = Grid((1, 3, 0, 4, 2), (3, 0, 4, 2, 1))
        self.assertEqual(
            [bracket(g), bracket(b), kept_bracket(k)], [((0, 1),), ((-2, -1), (2, -1)), ((0, 1),)]
        )

    def test_families(self):
        g = Grid((0, 1), (1, 0))
        h = Grid((0, 1, 2), (1, 2, 0))
        self.assertEqual(
            [first_turn(Grid((1, 0), (0, 1))).pair(), family(g), family(h)],
            [((0, 1), (1, 0)), (((0, 1), (1, 0)),), (((0, 1), (1, 0)), ((0, 1, 2), (1, 2, 0)))],
        )

    def test_parted_and_smallest_grids(self):
        b = Grid((0, 1, 2, 3), (1, 0, 3, 2))
        h = Grid((0, 1, 2), (1, 2, 0))
        self.assertEqual(
            [parted_at(b), parted_at(h), least_size(h), smallest(h)[0]], [(2,), (), 2, ((0, 1), (1, 0))]
        )

    def test_no_place_of_the_family(self):
        with self.assertRaises(Undefined) as caught:
            family_moves(Grid((0, 1, 2), (1, 2, 0)), (1, 0), (0, 1))
        self.assertEqual(caught.exception.what, "place")

    def test_the_plain_ring(self):
        h = Grid((0, 1, 2), (1, 2, 0))
        self.assertEqual(
            [ring_claim(h), ring_holds(h, ("ring",), (("shrink column", 0),)),
             ring_holds(h, ("knotted",), ("colours", 3, (1, 1, 1)))],
            [("ring",), True, False],
        )

    def test_no_claim_about_the_ring_of_two(self):
        with self.assertRaises(Undefined) as caught:
            ring_claim(Grid((0, 1, 2, 3), (1, 0, 3, 2)))
        self.assertEqual(caught.exception.what, "rings")

    def test_falling_apart(self):
        b = Grid((0, 1, 2, 3), (1, 0, 3, 2))
        d = doubled(Grid((0, 1), (1, 0)))
        self.assertEqual(
            [apart_claim(b), apart_holds(b, ("apart",), ((), 2)), apart_holds(b, ("apart",), ((), 1)), apart_claim(d),
             apart_holds(d, ("together",), ("linked", ((0, 1),)))],
            [("apart",), True, False, ("together",), True],
        )

    def test_one_ring_does_not_fall_apart(self):
        with self.assertRaises(Undefined) as caught:
            apart_paper(Grid((0, 1), (1, 0)))
        self.assertEqual(caught.exception.what, "rings")

    def test_unlike_grids(self):
        g = Grid((0, 1), (1, 0))
        h = Grid((0, 1, 2), (1, 2, 0))
        b = Grid((0, 1, 2, 3), (1, 0, 3, 2))
        d = doubled(Grid((0, 1), (1, 0)))
        self.assertEqual(
            [unlike_paper(g, b), unlike_paper(g, h), unlike_paper(d, b),
             unlike_holds(d, ("unlike", (0, 1, 2, 3), (1, 0, 3, 2)), ("linkings",)),
             unlike_holds(g, ("unlike", (0, 1, 2), (1, 2, 0)), ("colours", 3))],
            [("rings",), None, ("linkings",), True, False],
        )

    def test_questions_and_claims(self):
        self.assertEqual(
            [is_question(("ways", 3)), is_question(("colours", 4)), is_claim(("linkings", (-1, -1, 0))),
             is_claim(("rings", -1))],
            [True, False, True, False],
        )

    def test_answers(self):
        g = Grid((0, 1), (1, 0))
        h = Grid((0, 1, 2), (1, 2, 0))
        d = doubled(Grid((0, 1), (1, 0)))
        self.assertEqual(
            [answer_of(d, ("linkings",)), answer_of(d, ("ring",)), answer_of(g, ("apart",)), answer_of(h, ("ways", 3)),
             answer_of(h, ("alexander",)), paper_of(d, ("ring",))],
            [("linkings", (-1,)), ("rings", 2), ("rings", 1), ("ways", 3, 6), ("alexander", ((0, 1),)), ()],
        )

    def test_no_question(self):
        with self.assertRaises(InvalidQuestion) as caught:
            answer_of(Grid((0, 1), (1, 0)), ["ring"])
        self.assertEqual(caught.exception.value, ["ring"])

    def test_claims_hold_or_are_refuted(self):
        h = Grid((0, 1, 2), (1, 2, 0))
        b = Grid((0, 1, 2, 3), (1, 0, 3, 2))
        self.assertEqual(
            [claim_holds(h, ("rings", 1), ()), claim_holds(h, ("rings", 1), []), refute(h, ("knotted",))[0],
             refute(h, ("rings", 1)), refute(b, ("ring",))],
            [True, False, ("ring",), None, (("rings", 2), ())],
        )

    def test_no_claim(self):
        with self.assertRaises(InvalidClaim) as caught:
            refute(Grid((0, 1, 2), (1, 2, 0)), ("ring", 1))
        self.assertEqual(caught.exception.value, ("ring", 1))

    def test_texts_of_values(self):
        self.assertEqual(
            [told(((0, 1), (), "turn rows", (-5,))), untold('(1,("a",))')],
            ['((0,1),(),"turn rows",(-5,))', (1, ("a",))],
        )

    def test_no_text_of_a_value(self):
        with self.assertRaises(InvalidText):
            untold("(1)")

    def test_a_desk(self):
        d = Desk(Grid((0, 1, 2), (1, 2, 0)))
        a = d.watch(("rings",))
        b = d.deed(("move", ("shrink column", 0)))
        c = d.grid().pair()
        e = d.deed(("put", (0, 1, 2, 3), (1, 0, 3, 2)))
        self.assertEqual(
            [a, b, c, e, len(d.done())],
            [("rings", 1), ((("rings",), "kept", ("rings", 1)),), ((0, 1), (1, 0)),
             ((("rings",), "changed", ("rings", 2)),), 2],
        )

    def test_a_deed_undone(self):
        d = Desk(Grid((0, 1, 2), (1, 2, 0)))
        a = d.deed(("mirror",))
        b = d.done()
        c = d.grid().pair()
        e = d.undo()
        self.assertEqual([a, b, c, e, d.done()], [(), (("mirror",),), ((2, 1, 0), (0, 2, 1)), (), ()])

    def test_a_deed_that_cannot_be_done(self):
        d = Desk(Grid((0, 1, 2), (1, 2, 0)))
        with self.assertRaises(InvalidDeed) as caught:
            d.deed(("put", (0, 1), (0, 1)))
        self.assertEqual(caught.exception.value, ("put", (0, 1), (0, 1)))

    def test_nothing_to_redo(self):
        d = Desk(Grid((0, 1, 2), (1, 2, 0)))
        with self.assertRaises(NothingToUndo) as caught:
            d.redo()
        self.assertEqual(caught.exception.deed, "redo")

    def test_a_question_that_is_not_watched(self):
        d = Desk(Grid((0, 1, 2), (1, 2, 0)))
        with self.assertRaises(InvalidQuestion) as caught:
            d.claim(("rings",))
        self.assertEqual(caught.exception.value, ("rings",))

    def test_the_history_of_a_desk(self):
        d = Desk(Grid((0, 1), (1, 0)))
        d.deed(("about",))
        d.undo()
        self.assertEqual(d.paper(), 'grid ((0,1),(1,0))\ndeed ("about",)\nundo')

    def test_the_same_state(self):
        d = Desk(Grid((0, 1, 2), (1, 2, 0)))
        e = Desk(d.grid())
        s = same_state(d, e)
        d.watch(("rings",))
        self.assertEqual([s, same_state(d, e)], [True, False])

    def test_histories_that_hold_and_that_do_not(self):
        self.assertEqual(
            [paper_holds('grid ((0,1),(1,0))\nwatch ("rings",)\nclaim ("rings",1)\npaper ()'),
             paper_holds('grid ((0,1),(1,0))\nwatch ("rings",)\nclaim ("rings",2)\npaper ()'), paper_holds("")],
            [True, False, False],
        )

    def test_the_place_at_which_a_history_is_wrong(self):
        text = "grid ((0,1),(1,0))\nundo"
        with self.assertRaises(InvalidText) as caught:
            paper_end(text)
        self.assertEqual([caught.exception.text, caught.exception.at], [text, 19])

    def test_the_end_of_a_history(self):
        t = 'grid ((0,1),(1,0))\nwatch ("rings",)\nclaim ("rings",1)\npaper ()'
        p = paper_end(t)
        self.assertEqual([p[0].pair(), p[1], relived(t).paper() == t], [((0, 1), (1, 0)), (("rings",),), True])


class Interface(unittest.TestCase):
    def test_names_stand_in_their_files_with_their_parameters(self):
        for file, names in INTERFACE.items():
            module = importlib.import_module("gridknot." + file)
            for name, parameters in names.items():
                found = getattr(module, name)
                self.assertEqual(found.__module__, "gridknot." + file)
                self.assertEqual(found.__name__, name)
                if parameters is not None:
                    self.assertEqual(tuple(inspect.signature(found).parameters), parameters)

    def test_the_methods_of_a_grid_stand_in_its_class(self):
        for name in ("__init__", "__eq__", "__len__", "__str__", "pair"):
            self.assertTrue(inspect.isfunction(vars(Grid)[name]))

    def test_the_methods_of_a_desk_stand_in_its_class(self):
        for name, parameters in (
            ("grid", ()), ("deed", ("deed",)), ("undo", ()), ("redo", ()), ("done", ()), ("watch", ("question",)),
            ("leave", ("question",)), ("watched", ()), ("claim", ("question",)), ("paper_for", ("question",)),
            ("paper", ()),
        ):
            method = vars(Desk)[name]
            self.assertTrue(inspect.isfunction(method))
            self.assertEqual(tuple(inspect.signature(method).parameters)[1:], parameters)

    def test_the_attributes_of_a_grid_are_set_when_it_is_made(self):
        self.assertEqual(vars(Grid([0, 1], [1, 0])), {"xs": (0, 1), "ohs": (1, 0)})


if __name__ == "__main__":
    unittest.main()
