"""[22]: whether a ring is the plain one, and the papers of either claim."""

import unittest
from itertools import product

from gridknot.alexander import alexander
from gridknot.brackets import kept_bracket
from gridknot.colours import colours_paper, is_colouring
from gridknot.errors import Undefined
from gridknot.families import family
from gridknot.grids import Grid
from gridknot.making import beside, mirrored, summed, tipped, turned_about, upside_down
from gridknot.moves import led, moved, moves_open, way_back
from gridknot.plain import ring_claim, ring_holds, ring_paper
from gridknot.strands import rings
from support import (
    BARRED, CHAIN, EIGHT_KNOT, FIVE, FIVE_ONE, FIVE_TWO, KNOWN, LEAST, LINKED, SMALL_PRIMES, STEPS, TREFOIL,
    TWO_RINGS, changed_parts, grow_moves, is_tuple_throughout, of_other_length, some_grids, spoiled,
)
from turning import all_places, all_turns, due_family, due_place, grown_by_one, in_order, is_closed, spoiled_families

ONE = ((0, 1),)
RING, KNOTTED = ("ring",), ("knotted",)
# A trefoil with a family of twelve places, one of which is reached across the seam of rows alone.
ACROSS = ((0, 1, 5, 4, 3, 2), (4, 2, 3, 1, 0, 5))
KNOTS = (TREFOIL, EIGHT_KNOT, ACROSS)


def of_one_ring(pairs):
    return [pair for pair in pairs if len(rings(Grid(*pair))) == 1]


def is_due_family_paper(grid, places):
    """Whether places is a closed tuple of places as the document asks of it."""
    return (
        all(due_place(place) == place and len(place[0]) != 2 for place in places)
        and places == in_order(places)
        and due_place(grid.pair()) in places
        and is_closed(places)
    )


def is_due_paper(grid, claim, paper):
    """Whether paper, which is in one of the forms told, shows the claim, in the document's words."""
    if claim == RING:
        return len(led(grid, paper)) == 2
    if paper[0] == "family":
        return is_due_family_paper(grid, paper[1])
    if paper[0] == "colours":
        return paper[1] in SMALL_PRIMES and is_colouring(grid, *paper[1:]) and len(set(paper[2])) > 1
    told = {"bracket": kept_bracket, "alexander": alexander}[paper[0]](grid)
    return paper[1] == told and told != ONE


class Found(unittest.TestCase):
    def check(self, pair, due):
        grid = Grid(*pair)
        claim, paper = ring_claim(grid), ring_paper(grid)
        self.assertEqual(claim, due)
        self.assertIs(ring_holds(grid, claim, paper), True)
        self.assertIs(is_due_paper(grid, claim, paper), True)
        self.assertIs(ring_holds(grid, KNOTTED if due == RING else RING, paper), False)
        self.assertIs(type(claim), tuple)
        self.assertIs(type(paper), tuple)
        if due == RING:
            self.assertLessEqual(len(paper), 200)

    def test_known_knots(self):
        for pair in (TREFOIL, EIGHT_KNOT, ACROSS, mirrored(Grid(*TREFOIL)).pair(), FIVE_ONE, FIVE_TWO):
            self.check(pair, KNOTTED)

    def test_known_plain_rings(self):
        for pair in (LEAST, LEAST[::-1], STEPS, FIVE, ((0, 1, 2, 3, 4, 5), (1, 2, 3, 4, 5, 0))):
            self.check(pair, RING)

    def test_all_places_to_size_five(self):
        for size in (2, 3, 4, 5):
            for place in of_one_ring(all_places(size)):
                least = len(due_family(place)[0][0]) if size < 5 else len(family(Grid(*place))[0][0])
                self.check(place, RING if least == 2 else KNOTTED)

    def test_size_six_against_the_family_and_the_bracket(self):
        pairs = of_one_ring([grid.pair() for grid in some_grids(6, 60)])
        for pair in pairs + [moved(Grid(*TREFOIL), move).pair() for move in grow_moves(5)[::7]]:
            plain = family(Grid(*pair))[0] == LEAST
            self.check(pair, RING if plain else KNOTTED)
            self.assertEqual(kept_bracket(Grid(*pair)) == ONE, plain)

    def test_every_turn(self):
        for pair in (STEPS, FIVE, TREFOIL):
            due = ring_claim(Grid(*pair))
            for turn in all_turns(pair):
                self.check(turn, due)

    def test_no_move_changes_the_claim(self):
        for pair in of_one_ring([grid.pair() for grid in some_grids(5, 20)]) + [TREFOIL, FIVE]:
            grid = Grid(*pair)
            for move in moves_open(grid) + tuple(grow_moves(5)[::9]):
                self.assertEqual(ring_claim(moved(grid, move)), ring_claim(grid))

    def test_grids_made_of_one(self):
        for pair in (FIVE, TREFOIL, EIGHT_KNOT):
            for make in (mirrored, tipped, turned_about, upside_down):
                self.check(make(Grid(*pair)).pair(), ring_claim(Grid(*pair)))

    def test_sums(self):
        trefoil, ring = Grid(*TREFOIL), Grid(*FIVE)
        self.check(summed(Grid(*STEPS), 0, Grid(*STEPS), 1).pair(), RING)
        self.check(summed(ring, 2, Grid(*LEAST), 1).pair(), RING)
        self.check(summed(trefoil, 1, Grid(*LEAST), 0).pair(), KNOTTED)
        self.check(summed(Grid(*LEAST), 0, trefoil, 3).pair(), KNOTTED)

    def test_size_eight(self):
        for pair in of_one_ring([grid.pair() for grid in some_grids(8, 25)]):
            claim = ring_claim(Grid(*pair))
            self.check(pair, claim)

    def test_several_rings(self):
        for pair in (TWO_RINGS, LINKED, CHAIN, beside(Grid(*TREFOIL), Grid(*LEAST)).pair()):
            for ask in (ring_claim, ring_paper):
                with self.assertRaises(Undefined) as caught:
                    ask(Grid(*pair))
                self.assertEqual(caught.exception.what, "rings")

    def test_by_name_and_again(self):
        one, other = Grid(*TREFOIL), Grid(*FIVE)
        first = (ring_claim(grid=one), ring_paper(grid=one))
        between = (ring_claim(other), ring_paper(other))
        self.assertEqual((ring_claim(one), ring_paper(Grid(list(TREFOIL[0]), list(TREFOIL[1])))), first)
        self.assertEqual((ring_claim(other), ring_paper(other)), between)
        self.assertEqual([one.pair(), other.pair()], [TREFOIL, FIVE])
        for claim, paper in (first, between):
            self.assertIs(ring_holds(paper=paper, claim=claim, grid=one), claim == KNOTTED)


class PlainPapers(unittest.TestCase):
    def setUp(self):
        self.grid = Grid(*STEPS)
        self.row = (
            ("grow column", 1, 1, "up"), ("turn rows",), ("grow row", 0, 1, "down"), ("turn columns",),
            ("shrink row", 4), ("shrink column", 0), ("shrink column", 0),
        )

    def test_rows_that_grow_ahead_and_shrink_again(self):
        self.assertEqual(len(led(self.grid, self.row)), 2)
        self.assertIs(ring_holds(self.grid, RING, self.row), True)
        for move in grow_moves(3):
            row = (move,) + way_back(self.grid, move) + (("shrink row", 1),)
            self.assertIs(ring_holds(self.grid, RING, row), True)
            self.assertIs(ring_holds(self.grid, RING, row[:-1]), False)
        grid = Grid((0, 1, 2, 3, 4, 5), (1, 2, 3, 4, 5, 0))
        row = tuple(("grow row", k, k, "up") for k in range(3))
        rest = ring_paper(led(grid, row))
        self.assertIs(ring_holds(grid, RING, row + rest), True)

    def test_all_two_moves(self):
        for pair in (LEAST, STEPS, FIVE, TREFOIL):
            grid = Grid(*pair)
            moves = moves_open(grid) + tuple(grow_moves(len(grid))[::4])
            for move in moves:
                end = moved(grid, move)
                self.assertIs(ring_holds(grid, RING, (move,)), len(end) == 2)
                for other in moves_open(end):
                    self.assertIs(ring_holds(grid, RING, (move, other)), len(moved(end, other)) == 2)

    def test_any_end_of_size_two(self):
        self.assertIs(ring_holds(Grid(*LEAST), RING, ()), True)
        self.assertIs(ring_holds(Grid(*LEAST[::-1]), RING, ()), True)
        self.assertIs(ring_holds(Grid(*LEAST), RING, (("turn rows",),) * 200), True)
        self.assertIs(ring_holds(self.grid, RING, ()), False)

    def test_rows_with_one_part_changed(self):
        for wrong in list(spoiled(self.row)) + list(of_other_length(self.row)):
            # A turn more or less may lead to a least grid as well.
            if not any(wrong == self.row[:k] + self.row[k + 1:] for k in (1, 3)):
                try:
                    due = type(wrong) is tuple and is_tuple_of_moves(wrong) and len(led(self.grid, wrong)) == 2
                except ValueError:
                    due = False
                self.assertIs(ring_holds(self.grid, RING, wrong), due)

    def test_bools_and_lists_that_would_do(self):
        row = (("shrink column", 0),)
        self.assertIs(ring_holds(self.grid, RING, row), True)
        for wrong in (
            [("shrink column", 0)], (["shrink column", 0],), (("shrink column", False),), (("shrink column", 0.0),),
            (("shrink column", 0), []), (("shrink column", 0), None), ("shrink column", 0), "shrink column",
            (("shrink row", True),), (("turn rows",), ("shrink row", 5)), ((), ("shrink column", 0)), RING, KNOTTED,
        ):
            self.assertIs(ring_holds(self.grid, RING, wrong), False)
        self.assertIs(ring_holds(self.grid, RING, (("shrink row", 1),)), True)

    def test_papers_of_the_other_claim(self):
        trefoil = Grid(*TREFOIL)
        for paper in (("family", (TREFOIL,)), ("bracket", kept_bracket(trefoil)), ring_paper(trefoil)):
            self.assertIs(ring_holds(trefoil, RING, paper), False)
        self.assertIs(ring_holds(trefoil, KNOTTED, ()), False)
        self.assertIs(ring_holds(self.grid, KNOTTED, (("shrink column", 0),)), False)


def is_tuple_of_moves(row):
    return all(type(move) is tuple and not any(type(part) is bool for part in move) for move in row)


class FamilyPapers(unittest.TestCase):
    def test_the_families_of_knots_hold(self):
        for pair in KNOTS + (mirrored(Grid(*ACROSS)).pair(),):
            grid = Grid(*pair)
            places = due_family(pair) if len(pair[0]) < 6 else family(grid)
            self.assertTrue(is_closed(places))
            self.assertIs(ring_holds(grid, KNOTTED, ("family", places)), True)
            self.assertIs(ring_holds(grid, RING, ("family", places)), False)

    def test_of_every_turn_and_every_place_of_it(self):
        places = family(Grid(*ACROSS))
        self.assertEqual(len(places), 12)
        for place in places:
            self.assertIs(ring_holds(Grid(*place), KNOTTED, ("family", places)), True)
        for turn in all_turns(ACROSS):
            self.assertIs(ring_holds(Grid(*turn), KNOTTED, ("family", places)), True)

    def test_a_place_left_out_twice_out_of_order_or_turned(self):
        for pair in (TREFOIL, ACROSS):
            grid = Grid(*pair)
            places = family(grid)
            for wrong in spoiled_families(places):
                due = wrong == in_order(wrong) and all(
                    len(place) == 2 and due_place(place) == place for place in wrong
                ) and is_due_family_paper(grid, wrong)
                self.assertIs(ring_holds(grid, KNOTTED, ("family", wrong)), due)

    def test_no_part_of_the_family_of_the_grid_itself_will_do(self):
        grid = Grid(*ACROSS)
        places = family(grid)
        behind = {place: family(Grid(*place)) for place in places}
        for k in range(len(places)):
            left = places[:k] + places[k + 1:]
            due = due_place(ACROSS) in left and all(set(behind[place]) <= set(left) for place in left)
            self.assertFalse(due)
            self.assertIs(ring_holds(grid, KNOTTED, ("family", left)), False)

    def test_what_is_closed_but_for_the_seam(self):
        # Of the twelve places these eleven lead to one another by what can be done without a turn.
        grid = Grid(*ACROSS)
        met, waiting = {due_place(ACROSS)}, [due_place(ACROSS)]
        while waiting:
            place = waiting.pop()
            for move in moves_open(Grid(*place))[2:]:
                end = due_place(moved(Grid(*place), move).pair())
                if end not in met:
                    met.add(end)
                    waiting.append(end)
        self.assertEqual(len(met), 11)
        self.assertIs(ring_holds(grid, KNOTTED, ("family", in_order(met))), False)

    def test_one_place_more(self):
        grid = Grid(*ACROSS)
        places = family(grid)
        met = set()
        for wrong in grown_by_one(places):
            due = is_due_family_paper(grid, wrong)
            self.assertIs(ring_holds(grid, KNOTTED, ("family", wrong)), due)
            met.add(due)
        self.assertEqual(met, {True, False})

    def test_more_places_that_are_closed_again(self):
        grid = Grid(*TREFOIL)
        for other in (LINKED, mirrored(grid).pair(), ACROSS, CHAIN, TWO_RINGS):
            places = in_order(family(grid) + family(Grid(*other)))
            self.assertIs(ring_holds(grid, KNOTTED, ("family", places)), True)
            if other != ACROSS:
                self.assertIs(ring_holds(grid, KNOTTED, ("family", family(Grid(*other)))), False)
            self.assertIs(ring_holds(Grid(*FIVE), KNOTTED, ("family", places)), False)

    def test_a_place_of_size_two(self):
        for pair in KNOTS:
            grid = Grid(*pair)
            self.assertIs(ring_holds(grid, KNOTTED, ("family", (LEAST,) + family(grid))), False)
        for pair in (STEPS, FIVE, LEAST):
            places = family(Grid(*pair))
            self.assertIs(ring_holds(Grid(*pair), KNOTTED, ("family", places)), False)
            self.assertIs(ring_holds(Grid(*pair), KNOTTED, ("family", places[1:])), False)

    def test_no_tuple_of_few_places_shows_a_plain_ring_knotted(self):
        places = all_places(3) + all_places(4)[:6]
        for grid in (Grid(*LEAST), Grid(*STEPS), Grid((0, 1, 2, 3), (1, 2, 3, 0))):
            for chosen in product((False, True), repeat=len(places)):
                some = in_order(place for place, taken in zip(places, chosen) if taken)
                self.assertIs(ring_holds(grid, KNOTTED, ("family", some)), False)

    def test_what_is_no_tuple_of_places(self):
        grid = Grid(*TREFOIL)
        for wrong in (
            (), TREFOIL, (TREFOIL, ()), (TREFOIL, "x"), (TREFOIL, 3), ((TREFOIL,),), "family", 3, (3,), ("x",), ((),),
            ((), TREFOIL), ((0, 1), TREFOIL), (((), ()), TREFOIL), (((0,), (0,)), TREFOIL), (("ab", "ba"), TREFOIL),
            (((0, 1, 2), (0, 1, 2)), TREFOIL), (((0, 1, 2), (1, 2)), TREFOIL), (((0, 1, 1), (1, 0, 2)), TREFOIL),
            (((0, 1, 3), (1, 3, 0)), TREFOIL), (TREFOIL + (0,),), (TREFOIL[:1],),
        ):
            self.assertIs(ring_holds(grid, KNOTTED, ("family", wrong)), False)


class ColourPapers(unittest.TestCase):
    def test_all_colourings_of_the_trefoil_by_three(self):
        grid = Grid(*TREFOIL)
        held = 0
        for row in product(range(3), repeat=5):
            due = is_colouring(grid, 3, row) and len(set(row)) > 1
            self.assertIs(ring_holds(grid, KNOTTED, ("colours", 3, row)), due)
            held += due
        self.assertEqual(held, 6)

    def test_other_primes_and_knots(self):
        for pair, p in ((TREFOIL, 3), (EIGHT_KNOT, 5), (FIVE_ONE, 5), (FIVE_TWO, 7), (ACROSS, 3)):
            grid = Grid(*pair)
            basis, _ = colours_paper(grid, p)
            self.assertEqual(len(basis), 2)
            row = [row for row in basis if len(set(row)) > 1][0]
            for q in (-3, 0, 1, 2, 3, 4, 5, 6, 7, 9, 11, 13, 15, 17, 10 ** 12):
                due = q in SMALL_PRIMES and is_colouring(grid, q, row)
                self.assertIs(ring_holds(grid, KNOTTED, ("colours", q, row)), due)
            self.assertIs(ring_holds(grid, KNOTTED, ("colours", p, row)), True)
            for k in range(p):
                self.assertIs(ring_holds(grid, KNOTTED, ("colours", p, (k,) * len(grid))), False)

    def test_of_plain_rings_no_colouring_will_do(self):
        for pair in (STEPS, LEAST):
            for row in product(range(3), repeat=len(pair[0])):
                self.assertIs(ring_holds(Grid(*pair), KNOTTED, ("colours", 3, row)), False)

    def test_rows_with_one_part_changed(self):
        grid = Grid(*TREFOIL)
        paper = ring_paper(grid)
        self.assertEqual(paper[0], "colours")
        for wrong in changed_parts(paper, (-1, 3, 4, "x", "", "colours", (), (0,), (0, 1, 2, 0, 1))):
            if wrong != paper:
                due = isinstance(wrong, tuple) and wrong[:2] == paper[:2] and is_colouring(grid, 3, wrong[2])
                self.assertIs(ring_holds(grid, KNOTTED, wrong), due and len(set(wrong[2])) > 1)


class SeriesPapers(unittest.TestCase):
    def test_the_series_of_knots_hold(self):
        for pair in KNOTS + (FIVE_ONE, FIVE_TWO, mirrored(Grid(*TREFOIL)).pair()):
            grid = Grid(*pair)
            for word, ask in (("bracket", kept_bracket), ("alexander", alexander)):
                self.assertIs(ring_holds(grid, KNOTTED, (word, ask(grid))), True)
                self.assertIs(ring_holds(grid, RING, (word, ask(grid))), False)
                for wrong in changed_parts(ask(grid), (0, 1, -1, 7, "", "x", (), ONE, ((0, 1), (1, 1)))):
                    if wrong != ask(grid):
                        self.assertIs(ring_holds(grid, KNOTTED, (word, wrong)), False)

    def test_the_series_of_other_grids(self):
        trefoil, image, knot = Grid(*TREFOIL), mirrored(Grid(*TREFOIL)), Grid(*EIGHT_KNOT)
        self.assertIs(ring_holds(trefoil, KNOTTED, ("bracket", kept_bracket(image))), False)
        self.assertIs(ring_holds(trefoil, KNOTTED, ("alexander", alexander(image))), True)
        self.assertIs(ring_holds(trefoil, KNOTTED, ("bracket", kept_bracket(knot))), False)
        self.assertIs(ring_holds(trefoil, KNOTTED, ("alexander", alexander(knot))), False)
        self.assertIs(ring_holds(trefoil, KNOTTED, ("bracket", alexander(trefoil))), False)
        self.assertIs(ring_holds(trefoil, KNOTTED, ("alexander", kept_bracket(trefoil))), False)

    def test_those_of_plain_rings_show_nothing(self):
        for pair in (LEAST, STEPS, FIVE):
            for word in ("bracket", "alexander"):
                for series in (ONE, (), kept_bracket(Grid(*TREFOIL)), alexander(Grid(*TREFOIL))):
                    self.assertIs(ring_holds(Grid(*pair), KNOTTED, (word, series)), False)


class WrongClaimsAndPapers(unittest.TestCase):
    def right_ones(self):
        trefoil = Grid(*TREFOIL)
        return (
            (Grid(*STEPS), RING, (("turn rows",), ("shrink row", 1))),
            (trefoil, KNOTTED, ("family", family(trefoil))),
            (trefoil, KNOTTED, ring_paper(trefoil)),
            (trefoil, KNOTTED, ("bracket", kept_bracket(trefoil))),
            (trefoil, KNOTTED, ("alexander", alexander(trefoil))),
        )

    def test_lists_bools_and_other_values_anywhere(self):
        for grid, claim, paper in self.right_ones():
            self.assertIs(ring_holds(grid, claim, paper), True)
            for wrong in spoiled(paper):
                self.assertIs(ring_holds(grid, claim, wrong), False)
            for wrong in spoiled(claim):
                self.assertIs(ring_holds(grid, wrong, paper), False)

    def test_too_short_and_too_long(self):
        for grid, claim, paper in self.right_ones():
            if claim == KNOTTED:
                for wrong in of_other_length(paper):
                    self.assertIs(ring_holds(grid, claim, wrong), False)
            for value in BARRED + ("x", 0, (), ("turn rows",)):
                # One turn more leads to a least grid, too.
                due = claim == RING and value == ("turn rows",)
                self.assertIs(ring_holds(grid, claim, paper + (value,)), due)
                self.assertIs(ring_holds(grid, claim + (value,), paper), False)

    def test_claims_of_other_kinds(self):
        for grid, claim, paper in self.right_ones():
            other = KNOTTED if claim == RING else RING
            for wrong in (
                other, (), "ring", "knotted", ("Ring",), ("ring", "ring"), (RING,), (claim,), ("rings", 1), ("apart",),
                ("together",), ("colours", 3, 9), ("alike",) + grid.pair(), None, True, 0, [], list(claim), grid,
            ):
                self.assertIs(ring_holds(grid, wrong, paper), False)

    def test_papers_of_other_words(self):
        for grid, claim, paper in self.right_ones():
            if claim == KNOTTED:
                for word in ("", "x", "ring", "linked", "rings", "ways", "Family", 0, (), ("family",)):
                    self.assertIs(ring_holds(grid, claim, (word,) + paper[1:]), False)

    def test_several_rings(self):
        for pair in (LINKED, TWO_RINGS, CHAIN):
            grid = Grid(*pair)
            for paper in (
                (), ("family", family(grid)), ("bracket", kept_bracket(grid)), ("alexander", alexander(grid)),
                ("colours", 3, colours_paper(grid, 3)[0][-1]), ("linked", ((0, 1),)), (("turn rows",),),
            ):
                for claim in (RING, KNOTTED):
                    self.assertIs(ring_holds(grid, claim, paper), False)

    def test_deep_and_long_values(self):
        grid = Grid(*TREFOIL)
        deep, hidden = (), [None]
        for _ in range(29):
            deep, hidden = (deep,), (hidden,)
        for value in (deep, hidden, (0,) * 200000, ((),) * 200000, ("x",) * 200000):
            for claim in (RING, KNOTTED):
                for paper in (value, ("family", value), ("bracket", value), ("colours", 3, value), ("alexander", value)):
                    self.assertIs(ring_holds(grid, claim, paper), False)
            self.assertIs(ring_holds(grid, value, ring_paper(grid)), False)

    def test_what_is_found_is_made_of_tuples(self):
        for pair in KNOTS + (STEPS, FIVE, LEAST):
            claim, paper = ring_claim(Grid(*pair)), ring_paper(Grid(*pair))
            if claim == KNOTTED:
                self.assertTrue(is_tuple_throughout(paper[1:]))
            self.assertTrue(all(type(part) in (str, int, tuple) for part in paper))


if __name__ == "__main__":
    unittest.main()
