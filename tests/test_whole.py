"""[1], [2] and [3] over the whole program, and what the document sets in bold of it."""

import unittest
from copy import deepcopy

from gridknot.alexander import alexander
from gridknot.alike import alike_holds, search_alike
from gridknot.apart import apart_claim, apart_holds, apart_paper
from gridknot.brackets import bracket, kept_bracket
from gridknot.claims import answer_of, claim_holds, is_claim, is_question, paper_of, refute
from gridknot.colours import colourings, colours_claim, colours_holds, colours_paper, is_colouring
from gridknot.desk import Desk, same_state
from gridknot.errors import (
    InvalidClaim, InvalidDeed, InvalidGrid, InvalidMove, InvalidNumber, InvalidQuestion, InvalidText, KnotError,
    NothingToUndo, Undefined,
)
from gridknot.families import family, family_moves, first_turn, least_size, parted_at, smallest
from gridknot.grids import Grid, o_column, read_grid, x_column
from gridknot.histories import paper_end, paper_holds, relived
from gridknot.making import beside, doubled, mirrored, summed, tipped, turned_about, upside_down
from gridknot.moves import led, moved, moves_open, way_back
from gridknot.plain import ring_claim, ring_holds, ring_paper
from gridknot.series import is_series, series_at, series_plus, series_text, series_times
from gridknot.strands import crossings, linkings, ring_of, rings, sign_at, twist
from gridknot.told import told, untold
from gridknot.unlike import unlike_holds, unlike_paper
from gridknot.ways import ways
from leading import QUESTIONS
from support import FIVE, LEAST, LINKED, SMALL_PRIMES, STEPS, TREFOIL, TWO_RINGS, some_grids
from turning import all_places

HISTORY = 'grid ((0,1,2),(1,2,0))\nwatch ("rings",)\nclaim ("rings",1)\npaper ()\ndeed ("mirror",)\nclaim ("rings",1)\npaper ()'


def within(many, value, sequence):
    for _ in range(many):
        value = sequence([value])
    return value


def any_values():
    """Values of every kind, some of them nested thirty deep."""
    desk = Desk(Grid(*STEPS))
    values = [None, True, False, 0, 1, -1, 2, 3, 10 ** 30, -10 ** 30, "", "X", "ring", "turn rows", "\u00e9\n", (), []]
    values += [Grid(*LEAST), Grid(*LINKED), desk, KnotError(), InvalidMove(()), Undefined("rings")]
    values += [within(30, (), tuple), within(30, [], list), within(29, None, tuple), within(29, True, list)]
    values += [("ring",), ["ring"], ("ring", 1), (True,), (None,), ([],), ((),), [()], ("rings", 1), ("rings", True), (desk,)]
    values += [LEAST, list(LEAST), [list(LEAST[0]), list(LEAST[1])], ((0, True), (1, 0)), ((0, 1),), (((0, 1), (1, 0)),)]
    values += [("turn rows",), ["turn rows"], (("turn rows",),), [("turn rows",)], ("swap columns", True), ("mirror",)]
    values += [("alike",) + LEAST, ("unlike",) + LINKED, ("colours", 3, 9), ("colours", 3, (0, 1, 2, 0, 1)), ("linked", ())]
    values += [("family", (TREFOIL,)), ("family", [TREFOIL]), ("linked", ((0, 1),)), ((), 2), ((), True), ("alexander", ())]
    return values + [(Grid(*LEAST),), ("ring", Grid(*LEAST)), (0, [1, (2, None)]), ("x", ("y", ("z", [True])))]


def calls():
    """Each function with arguments that are right, by their names."""
    h, t, b, d = Grid(*STEPS), Grid(*TREFOIL), Grid(*TWO_RINGS), Grid(*LINKED)
    found = [(ask, {"grid": grid}) for grid in (h, t, b) for ask in (
        rings, crossings, twist, linkings, moves_open, mirrored, tipped, turned_about, upside_down, doubled, alexander,
        bracket, kept_bracket, first_turn, family, parted_at, least_size, smallest,
    )]
    found += [(ask, {"grid": grid}) for grid in (h, t) for ask in (ring_claim, ring_paper)]
    found += [(ask, {"grid": grid}) for grid in (b, d) for ask in (apart_claim, apart_paper)]
    found += [(ask, {"grid": t, "p": p}) for p in SMALL_PRIMES for ask in (colourings, colours_claim, colours_paper)]
    found += [(ask, {"grid": t, "question": question}) for question in QUESTIONS for ask in (answer_of, paper_of)]
    rows = [("grow column", 0, 0, "up"), ("turn columns",), ("shrink column", 3)]
    return found + [
        (Grid, {"xs": [0, 1, 2], "ohs": [1, 2, 0]}), (read_grid, {"text": str(t)}), (x_column, {"grid": t, "r": 2}),
        (o_column, {"grid": t, "r": 2}), (ring_of, {"grid": b, "i": 2}), (sign_at, {"grid": d, "i": 1, "r": 2}),
        (moved, {"grid": h, "move": ("turn rows",)}), (way_back, {"grid": h, "move": ("shrink column", 0)}),
        (led, {"grid": h, "moves": rows}), (led, {"grid": h, "moves": tuple(rows)}),
        (alike_holds, {"grid": h, "claim": ("alike",) + LEAST, "paper": (("shrink column", 0),)}),
        (search_alike, {"grid": h, "other": Grid(*LEAST), "depth": 2}), (beside, {"one": h, "other": t}),
        (summed, {"one": h, "i": 0, "other": t, "j": 1}), (is_colouring, {"grid": t, "p": 3, "value": (0, 1, 2, 0, 1)}),
        (colours_holds, {"grid": t, "claim": colours_claim(t, 3), "paper": colours_paper(t, 3)}), (ways, {"grid": t, "m": 3}),
        (is_series, {"value": ((0, 1),)}), (series_plus, {"a": ((0, 1),), "b": ((1, 2),)}),
        (series_times, {"a": ((0, 1),), "b": ((1, 2),)}), (series_at, {"a": ((0, 1), (2, 1)), "top": 1, "bottom": 2}),
        (series_text, {"a": ((0, 1), (2, 1)), "name": "t"}), (family_moves, {"grid": h, "xs": (0, 1), "ohs": (1, 0)}),
        (ring_holds, {"grid": t, "claim": ("knotted",), "paper": ring_paper(t)}),
        (apart_holds, {"grid": d, "claim": ("together",), "paper": apart_paper(d)}), (unlike_paper, {"grid": t, "other": h}),
        (unlike_holds, {"grid": t, "claim": ("unlike",) + STEPS, "paper": ("colours", 3)}),
        (is_question, {"value": ("ways", 3)}), (is_claim, {"value": ("rings", 3)}), (refute, {"grid": h, "claim": ("knotted",)}),
        (claim_holds, {"grid": h, "claim": ("rings", 1), "paper": ()}), (told, {"value": (1, ("a",))}),
        (untold, {"text": '(1,("a",))'}), (same_state, {"one": Desk(h), "other": Desk(h)}),
        (paper_holds, {"text": HISTORY}), (paper_end, {"text": HISTORY}), (relived, {"text": HISTORY}),
    ]


LOOKING = (alike_holds, colours_holds, ring_holds, apart_holds, unlike_holds, claim_holds)


def is_well_made(value):
    """Whether value is made of what the document says that is returned: no list stands anywhere in it."""
    if isinstance(value, tuple):
        return all(is_well_made(part) for part in value)
    return value is None or type(value) in (bool, int, str, Grid, Desk)


def same(one, other):
    """Whether the two are equal and of equal kinds, also within."""
    if type(one) is not type(other):
        return False
    if isinstance(one, (tuple, list)):
        return len(one) == len(other) and all(same(a, b) for a, b in zip(one, other))
    return one.paper() == other.paper() if isinstance(one, Desk) else one == other


class Calls(unittest.TestCase):
    def test_by_position_by_name_and_again(self):
        for ask, arguments in calls():
            first = ask(**arguments)
            self.assertTrue(same(ask(*arguments.values()), first))
            self.assertTrue(same(ask(**dict(reversed(arguments.items()))), first))
            self.assertTrue(same(ask(**deepcopy(arguments)), first))

    def test_arguments_are_not_changed(self):
        for ask, arguments in calls():
            before = deepcopy(arguments)
            ask(**arguments)
            self.assertTrue(same(list(arguments.values()), list(before.values())))

    def test_tuples_are_told_throughout(self):
        for ask, arguments in calls():
            self.assertTrue(is_well_made(ask(**arguments)), ask)

    def test_equal_grids_tell_the_same_whatever_they_were_made_of(self):
        for ask, arguments in calls():
            if "grid" in arguments:
                grid = arguments["grid"]
                made = Grid(list(grid.xs), list(grid.ohs))
                self.assertTrue(same(ask(**{**arguments, "grid": made}), ask(**arguments)))


class AnyValues(unittest.TestCase):
    def test_looking_functions_take_any_value(self):
        grids = [Grid(*pair) for pair in (STEPS, TREFOIL, LINKED, TWO_RINGS)]
        claims = any_values() + [("ring",), ("knotted",), ("apart",), ("together",), ("colours", 3, 9), ("unlike",) + LINKED]
        for grid in grids:
            for claim in claims:
                for paper in any_values():
                    for ask in LOOKING:
                        self.assertIs(type(ask(grid, claim, paper)), bool)

    def test_whether_functions_take_any_value(self):
        for value in any_values():
            for ask in (is_series, is_question, is_claim):
                self.assertIs(type(ask(value)), bool)
            for p in SMALL_PRIMES:
                self.assertIs(is_colouring(Grid(*LEAST), p, value), False)

    def check(self, ask, error, name, value):
        """Whether the call tells the error, which keeps the value itself; no other one is told."""
        try:
            ask()
        except error as caught:
            self.assertIs(type(caught), error)
            self.assertIs(getattr(caught, name), value)
            return True
        return False

    def test_errors_of_any_values(self):
        grid, desk = Grid(*STEPS), Desk(Grid(*STEPS))
        for value in any_values():
            is_number = type(value) is int
            told_off = self.check(lambda: x_column(grid, value), InvalidNumber, "value", value)
            self.assertIs(told_off, not (is_number and 0 <= value < 3))
            self.assertIs(self.check(lambda: o_column(grid, value), InvalidNumber, "value", value), told_off)
            self.assertIs(self.check(lambda: ring_of(grid, value), InvalidNumber, "value", value), told_off)
            self.assertIs(self.check(lambda: summed(grid, value, grid, 0), InvalidNumber, "value", value), told_off)
            self.assertIs(self.check(lambda: summed(grid, 0, grid, value), InvalidNumber, "value", value), told_off)
            told_off = self.check(lambda: search_alike(grid, grid, value), InvalidNumber, "value", value)
            self.assertIs(told_off, not (is_number and 0 <= value < 5))
            self.assertIs(
                self.check(lambda: ways(grid, value), InvalidNumber, "value", value), not (is_number and 1 <= value <= 3)
            )
            for ask in (colourings, colours_claim, colours_paper):
                told_off = self.check(lambda: ask(grid, value), InvalidNumber, "value", value)
                self.assertIs(told_off, not (is_number and value in SMALL_PRIMES))
            for ask in (moved, way_back):
                told_off = self.check(lambda: ask(grid, value), InvalidMove, "move", value)
                self.assertIs(told_off, value != ("turn rows",))
            told_off = self.check(lambda: led(grid, [value]), InvalidMove, "move", value)
            self.assertIs(told_off, value != ("turn rows",))
            for ask in (answer_of, paper_of):
                told_off = self.check(lambda: ask(grid, value), InvalidQuestion, "value", value)
                self.assertIs(told_off, not is_question(value))
            told_off = self.check(lambda: refute(grid, value), InvalidClaim, "value", value)
            self.assertIs(told_off, not is_claim(value))
            for ask in (desk.leave, desk.claim, desk.paper_for):
                self.assertTrue(self.check(lambda: ask(value), InvalidQuestion, "value", value))
            told_off = self.check(lambda: Desk(grid).watch(value), InvalidQuestion, "value", value)
            self.assertIs(told_off, not is_question(value))
            told_off = self.check(lambda: Desk(grid).deed(value), InvalidDeed, "value", value)
            self.assertIs(told_off, value != ("mirror",))
        self.assertEqual([grid.pair(), desk.paper()], [STEPS, "grid " + told(STEPS)])

    def test_pairs_of_any_values(self):
        grid = Grid(*STEPS)
        for one in any_values():
            for other in any_values()[::3]:
                with self.assertRaises(InvalidGrid) as caught:
                    Grid(one, other)
                self.assertIs(caught.exception.value[0], one)
                self.assertIs(caught.exception.value[1], other)
                with self.assertRaises(Undefined) as caught:
                    family_moves(grid, one, other)
                self.assertEqual(caught.exception.what, "place")
                with self.assertRaises(Undefined) as caught:
                    sign_at(grid, one, other)
                self.assertEqual(caught.exception.what, "crossing")

    def test_any_text(self):
        for text in ("", "X", "\n", "XO", "\u00e9", "\x00", "ring", "()" * 50, "grid ", HISTORY + " ", "a" * 1000):
            for ask in (read_grid, untold, paper_end, relived):
                with self.assertRaises(InvalidText) as caught:
                    ask(text)
                self.assertIs(caught.exception.text, text)
                self.assertTrue(0 <= caught.exception.at <= len(text))
            self.assertIs(paper_holds(text), False)


class ErrorsInOrder(unittest.TestCase):
    def test_the_first_that_is_listed(self):
        grid = Grid(*STEPS)
        for ask, error, name, due in (
            (lambda: summed(grid, "i", grid, "j"), InvalidNumber, "value", "i"),
            (lambda: summed(grid, 0, grid, "j"), InvalidNumber, "value", "j"),
            (lambda: is_colouring(grid, 4, None), InvalidNumber, "value", 4),
            (lambda: led(grid, ["a", "b"]), InvalidMove, "move", "a"),
            (lambda: led(grid, [("turn rows",), "b", "c"]), InvalidMove, "move", "b"),
            (lambda: series_at((), 0, 0), Undefined, "what", "value"),
            (lambda: sign_at(grid, "i", "r"), Undefined, "what", "crossing"),
            (lambda: ring_claim(Grid(*LINKED)), Undefined, "what", "rings"),
            (lambda: apart_paper(grid), Undefined, "what", "rings"),
            (lambda: Desk(grid).undo(), NothingToUndo, "deed", "undo"),
            (lambda: Desk(grid).redo(), NothingToUndo, "deed", "redo"),
        ):
            with self.assertRaises(KnotError) as caught:
                ask()
            self.assertIs(type(caught.exception), error)
            self.assertEqual(getattr(caught.exception, name), due)

    def test_errors_stand_under_one_alone(self):
        classes = (
            InvalidGrid, InvalidText, InvalidMove, InvalidNumber, InvalidClaim, InvalidQuestion, InvalidDeed, Undefined,
            NothingToUndo,
        )
        for one in classes:
            self.assertTrue(issubclass(one, KnotError) and issubclass(one, ValueError))
            self.assertFalse([other for other in classes if other is not one and issubclass(one, other)])

    def test_errors_keep_their_arguments_themselves(self):
        move = ["turn rows", []]
        with self.assertRaises(InvalidMove) as caught:
            moved(Grid(*STEPS), move)
        move[1].append(0)
        self.assertEqual(caught.exception.move, ["turn rows", [0]])


class Objects(unittest.TestCase):
    def test_none_is_iterable(self):
        for value in (Grid(*STEPS), Desk(Grid(*STEPS)), KnotError(), InvalidGrid(()), InvalidText("", 0), Undefined("x")):
            self.assertRaises(TypeError, iter, value)
            self.assertRaises(TypeError, list, value)

    def test_a_grid_is_equal_to_nothing_else(self):
        for value in any_values():
            self.assertIs(Grid(*STEPS) == value, False)
        self.assertIs(Grid(*STEPS) == Grid(*STEPS), True)


class Whole(unittest.TestCase):
    def test_of_every_small_grid_just_one_is_told(self):
        # A ring is plain just if it can be led to a least grid, knotted just if its closed family has none; so with parted.
        for size in (2, 3, 4, 5):
            for place in all_places(size):
                grid = Grid(*place)
                places = family(grid)
                one_ring = len(rings(grid)) == 1
                claims = (("ring",), ("knotted",)) if one_ring else (("apart",), ("together",))
                answer = answer_of(grid, (claims[0][0],))
                self.assertIn(answer, claims)
                self.assertIs(claim_holds(grid, answer, paper_of(grid, (claims[0][0],))), True)
                self.assertIs(claim_holds(grid, claims[1], ("family", places)), answer == claims[1])

    def test_grids_that_a_paper_joins_differ_in_nothing_that_stays(self):
        for grid in some_grids(5, 12):
            for move in moves_open(grid):
                end = moved(grid, move)
                self.assertIs(alike_holds(grid, ("alike",) + end.pair(), (move,)), True)
                self.assertIs(unlike_paper(grid, end), None)
                for question in QUESTIONS:
                    self.assertEqual(answer_of(grid, question), answer_of(end, question))

    def test_no_grid_is_both_alike_and_unlike_another_one(self):
        grids = [Grid(*pair) for pair in (LEAST, STEPS, FIVE, TREFOIL, TWO_RINGS, LINKED)] + some_grids(4, 6)
        for one in grids:
            for other in grids:
                row = search_alike(one, other, 3)
                if row is not None:
                    self.assertIs(alike_holds(one, ("alike",) + other.pair(), row), True)
                    self.assertIs(unlike_paper(one, other), None)


if __name__ == "__main__":
    unittest.main()
