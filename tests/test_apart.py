"""[23]: whether a link falls apart, and the papers of either claim."""

import unittest
from itertools import combinations, product

from gridknot.apart import apart_claim, apart_holds, apart_paper
from gridknot.errors import Undefined
from gridknot.families import family, parted_at
from gridknot.grids import Grid
from gridknot.making import beside, doubled, mirrored, summed, tipped, turned_about, upside_down
from gridknot.moves import led, moved, moves_open, way_back
from gridknot.strands import linkings, rings
from support import (
    BARRED, CHAIN, FIVE, LEAST, LINKED, STEPS, TREFOIL, TWO_RINGS, WHITEHEAD, changed_parts, grow_moves,
    is_tuple_throughout, of_other_length, some_grids, spoiled,
)
from turning import (
    all_places, all_turns, due_family, due_parted_at, due_place, grown_by_one, in_order, is_closed, is_due_parted,
    spoiled_families,
)

APART, TOGETHER = ("apart",), ("together",)
THREE_APART = ((0, 1, 2, 3, 4, 5), (1, 0, 3, 2, 5, 4))
# Two rings that are linked, grown by one; its family has one place that is reached across the seam alone.
ACROSS = ((0, 1, 2, 4, 3), (2, 3, 0, 1, 4))
# Three rings, two of them linked, the third apart from both.
TWO_AND_ONE = beside(Grid(*LINKED), Grid(*LEAST)).pair()
# Three rings, each linked with each.
THREE_LINKED = ((0, 1, 2, 3, 4, 5), (3, 4, 5, 0, 1, 2))
FOUR_LINKED = ((0, 1, 2, 3, 4, 5, 6, 7), (2, 4, 0, 6, 1, 7, 3, 5))


def of_several_rings(pairs):
    return [pair for pair in pairs if len(rings(Grid(*pair))) > 1]


def joins_all(grid, pairs):
    """Whether each ring can be come to from ring 0 along the pairs, either way."""
    met, waiting = {0}, [0]
    while waiting:
        ring = waiting.pop()
        for a, b in pairs:
            for one, other in ((a, b), (b, a)):
                if one == ring and other not in met:
                    met.add(other)
                    waiting.append(other)
    return len(met) == len(rings(grid))


def is_due_linked(grid, pairs):
    told = linkings(grid)
    many = len(told)
    right = all(len(pair) == 2 and 0 <= pair[0] < pair[1] < many and told[pair[0]][pair[1]] != 0 for pair in pairs)
    return right and joins_all(grid, pairs)


def is_due_family_paper(grid, places):
    return (
        all(due_place(place) == place and not is_due_parted(place) for place in places)
        and places == in_order(places)
        and due_place(grid.pair()) in places
        and is_closed(places)
    )


def is_due_paper(grid, claim, paper):
    """Whether paper, which is in one of the forms told, shows the claim, in the document's words."""
    if claim == APART:
        return paper[1] in due_parted_at(led(grid, paper[0]).pair())
    if paper[0] == "linked":
        return is_due_linked(grid, paper[1])
    return paper[0] == "family" and is_due_family_paper(grid, paper[1])


class Found(unittest.TestCase):
    def check(self, pair, due):
        grid = Grid(*pair)
        claim, paper = apart_claim(grid), apart_paper(grid)
        self.assertEqual(claim, due)
        self.assertIs(apart_holds(grid, claim, paper), True)
        self.assertIs(is_due_paper(grid, claim, paper), True)
        self.assertIs(apart_holds(grid, TOGETHER if due == APART else APART, paper), False)
        self.assertIs(type(claim), tuple)
        self.assertIs(type(paper), tuple)
        if due == APART:
            self.assertLessEqual(len(paper[0]), 200)

    def test_known_links(self):
        for pair in (LINKED, CHAIN, ACROSS, THREE_LINKED, mirrored(Grid(*CHAIN)).pair(), doubled(Grid(*STEPS)).pair()):
            self.check(pair, TOGETHER)
        for pair in (TWO_RINGS, THREE_APART, TWO_AND_ONE, beside(Grid(*STEPS), Grid(*STEPS)).pair()):
            self.check(pair, APART)

    def test_linked_though_the_linking_number_is_none(self):
        self.assertEqual(linkings(Grid(*WHITEHEAD)), ((0, 0), (0, 0)))
        self.check(WHITEHEAD, TOGETHER)
        self.assertEqual(apart_paper(Grid(*WHITEHEAD))[0], "family")

    def test_all_places_to_size_five(self):
        for size in (4, 5):
            for place in of_several_rings(all_places(size)):
                told = due_family(place) if size < 5 else family(Grid(*place))
                self.check(place, APART if any(is_due_parted(other) for other in told) else TOGETHER)

    def test_size_six_against_the_family(self):
        for pair in of_several_rings([grid.pair() for grid in some_grids(6, 60)]):
            parted = any(is_due_parted(place) for place in family(Grid(*pair)))
            self.check(pair, APART if parted else TOGETHER)

    def test_every_turn(self):
        for pair in (TWO_RINGS, LINKED, ACROSS):
            for turn in all_turns(pair):
                self.check(turn, apart_claim(Grid(*pair)))

    def test_no_move_changes_the_claim(self):
        for pair in of_several_rings([grid.pair() for grid in some_grids(5, 25)]) + [LINKED, TWO_RINGS]:
            grid = Grid(*pair)
            for move in moves_open(grid) + tuple(grow_moves(len(grid))[::9]):
                self.assertEqual(apart_claim(moved(grid, move)), apart_claim(grid))

    def test_grids_made_of_others(self):
        for pair in (LINKED, TWO_RINGS, CHAIN, TWO_AND_ONE):
            for make in (mirrored, tipped, turned_about, upside_down):
                self.check(make(Grid(*pair)).pair(), apart_claim(Grid(*pair)))
        self.check(beside(Grid(*LEAST), Grid(*LINKED)).pair(), APART)
        self.check(summed(Grid(*LINKED), 1, Grid(*STEPS), 0).pair(), TOGETHER)
        self.check(summed(Grid(*TWO_RINGS), 1, Grid(*STEPS), 0).pair(), APART)

    def test_one_ring(self):
        for pair in (LEAST, STEPS, TREFOIL):
            for ask in (apart_claim, apart_paper):
                with self.assertRaises(Undefined) as caught:
                    ask(Grid(*pair))
                self.assertEqual(caught.exception.what, "rings")

    def test_by_name_and_again(self):
        one, other = Grid(*LINKED), Grid(*TWO_AND_ONE)
        first = (apart_claim(grid=one), apart_paper(grid=one))
        between = (apart_claim(other), apart_paper(other))
        self.assertEqual((apart_claim(one), apart_paper(Grid(list(LINKED[0]), list(LINKED[1])))), first)
        self.assertEqual((apart_claim(other), apart_paper(other)), between)
        self.assertEqual([one.pair(), other.pair()], [LINKED, TWO_AND_ONE])
        for claim, paper in (first, between):
            self.assertIs(apart_holds(paper=paper, claim=claim, grid=one), claim == TOGETHER)
            self.assertTrue(is_tuple_throughout(paper[1:]) or claim == APART)


class ApartPapers(unittest.TestCase):
    def test_each_number(self):
        for pair in (TWO_RINGS, THREE_APART, TWO_AND_ONE, LINKED, ((0, 1, 2, 3, 4), (1, 2, 0, 4, 3))):
            grid = Grid(*pair)
            for turn in all_turns(pair)[::3]:
                for k in (-2, -1, 0, 1, 2, 3, 4, 5, 6, 7, 10 ** 12):
                    self.assertIs(apart_holds(Grid(*turn), APART, ((), k)), k in due_parted_at(turn))
            for k in parted_at(grid):
                row = (("turn columns",),) * len(grid) + (("turn rows",),) * len(grid)
                self.assertIs(apart_holds(grid, APART, (row, k)), True)
                self.assertIs(apart_holds(grid, APART, (row[1:], k)), False)

    def test_rows_that_grow_ahead_and_shrink_again(self):
        grid = Grid(*TWO_RINGS)
        for move in grow_moves(4):
            row = (move,) + way_back(grid, move)
            self.assertIs(apart_holds(grid, APART, (row, 2)), True)
            self.assertIs(apart_holds(grid, APART, (row, 3)), False)
            for k in range(6):
                self.assertIs(apart_holds(grid, APART, (row[:1], k)), k in parted_at(moved(grid, move)))

    def test_all_two_moves(self):
        for pair in (TWO_RINGS, LINKED, ((0, 1, 2, 3, 4), (1, 2, 0, 4, 3))):
            grid = Grid(*pair)
            for move in moves_open(grid) + tuple(grow_moves(len(grid))[::4]):
                end = moved(grid, move)
                for other in moves_open(end):
                    for k in range(1, 6):
                        due = k in due_parted_at(moved(end, other).pair())
                        self.assertIs(apart_holds(grid, APART, ((move, other), k)), due)

    def test_moves_that_cannot_be_done(self):
        grid = Grid(*TWO_RINGS)
        for wrong in (("swap columns", 0), ("shrink column", 0), ("turn",), (), ((),), "turn rows", 2, ("grow row", 5, 0, "up")):
            self.assertIs(apart_holds(grid, APART, ((wrong,), 2)), False)
            self.assertIs(apart_holds(grid, APART, (wrong, 2)), wrong == ())

    def test_papers_of_other_forms(self):
        grid = Grid(*TWO_RINGS)
        for wrong in (
            (), ((),), ((), 2, 2), (2, ()), ((), ()), ((), "2"), ((), (2,)), (("turn rows",), 2), ((), ((), 2)), 2, "x",
            ((), True), ((), None), ([], 2), [(), 2], ("apart", 2), ("family", ()), ("linked", ()), ((), parted_at(grid)),
        ):
            self.assertIs(apart_holds(grid, APART, wrong), False)


class LinkedPapers(unittest.TestCase):
    def holds(self, grid, pairs):
        return apart_holds(grid, TOGETHER, ("linked", pairs))

    def test_two_rings(self):
        for pair in (LINKED, ACROSS):
            grid = Grid(*pair)
            self.assertIs(self.holds(grid, ((0, 1),)), True)
            for wrong in (
                (), ((1, 0),), ((0, 0),), ((1, 1),), ((0, 2),), ((1, 2),), ((-1, 1),), ((-2, -1),), ((0,),), ((0, 1, 1),),
                (0, 1), ((0, 1), (1, 0)), ((0, 1), (1, 2)), ((0, 1), ()), ((0, 1), 0), ((0, 1), "x"), ("01",), "x", 3,
                (("0", "1"),), ((0, "x"),), (((0, 1),),), ((0, 10 ** 12),), ((0, ()),),
            ):
                self.assertIs(self.holds(grid, wrong), False)

    def test_a_pair_twice(self):
        self.assertIs(self.holds(Grid(*LINKED), ((0, 1), (0, 1))), True)
        self.assertIs(self.holds(Grid(*CHAIN), ((0, 1), (0, 1), (1, 2))), True)
        self.assertIs(self.holds(Grid(*CHAIN), ((0, 1), (0, 1))), False)

    def test_all_rows_of_pairs_of_three_rings(self):
        pairs = [(a, b) for a in range(-1, 4) for b in range(-1, 4)]
        for pair in (CHAIN, THREE_LINKED, TWO_AND_ONE, THREE_APART, mirrored(Grid(*CHAIN)).pair()):
            grid = Grid(*pair)
            self.assertEqual(len(rings(grid)), 3)
            for row in [(one,) for one in pairs] + list(product(pairs, repeat=2)):
                self.assertIs(self.holds(grid, row), is_due_linked(grid, row))

    def test_any_order(self):
        grid = Grid(*CHAIN)
        self.assertEqual(linkings(grid)[0][2], 0)
        self.assertIs(self.holds(grid, ((0, 1), (1, 2))), True)
        self.assertIs(self.holds(grid, ((1, 2), (0, 1))), True)
        self.assertIs(self.holds(grid, ((0, 1), (2, 1))), False)
        self.assertIs(self.holds(grid, ((0, 1), (0, 2))), False)

    def test_four_rings_in_a_row(self):
        grid = Grid(*FOUR_LINKED)
        self.assertEqual(len(rings(grid)), 4)
        linked = [(a, b) for a, b in combinations(range(4), 2) if linkings(grid)[a][b]]
        met = set()
        for many in range(5):
            for row in product(linked, repeat=many):
                due = is_due_linked(grid, row)
                self.assertIs(self.holds(grid, row), due)
                met.add((many, due))
        self.assertIn((3, True), met)
        self.assertNotIn((2, True), met)

    def test_each_ring_is_come_to_but_not_from_the_first_one(self):
        # Both halves hold together, but not with each other.
        grid = beside(Grid(*LINKED), Grid(*LINKED))
        self.assertIs(self.holds(grid, ((0, 1), (2, 3))), False)
        self.assertIs(self.holds(grid, ((2, 3), (0, 1))), False)
        self.assertEqual(apart_claim(grid), APART)

    def test_many_pairs(self):
        self.assertIs(self.holds(Grid(*LINKED), ((0, 1),) * 60000), True)
        self.assertIs(self.holds(Grid(*CHAIN), ((0, 1),) * 60000), False)


class FamilyPapers(unittest.TestCase):
    def test_the_families_of_links_hold(self):
        for pair in (LINKED, ACROSS, CHAIN, THREE_LINKED, mirrored(Grid(*CHAIN)).pair()):
            grid = Grid(*pair)
            places = due_family(pair) if len(pair[0]) < 6 else family(grid)
            self.assertTrue(is_due_family_paper(grid, places))
            self.assertIs(apart_holds(grid, TOGETHER, ("family", places)), True)
            self.assertIs(apart_holds(grid, APART, ("family", places)), False)

    def test_of_every_turn(self):
        for pair in (LINKED, ACROSS, CHAIN):
            places = family(Grid(*pair))
            for turn in all_turns(pair):
                self.assertIs(apart_holds(Grid(*turn), TOGETHER, ("family", places)), True)

    def test_a_place_left_out_twice_out_of_order_or_turned(self):
        for pair in (LINKED, ACROSS, CHAIN):
            grid = Grid(*pair)
            for wrong in spoiled_families(family(grid)):
                self.assertIs(apart_holds(grid, TOGETHER, ("family", wrong)), False)

    def test_what_is_closed_but_for_the_seam(self):
        places = family(Grid(*ACROSS))
        self.assertEqual(len(places), 3)
        left = (LINKED, ACROSS)
        self.assertTrue(all(place in places for place in left))
        self.assertIs(apart_holds(Grid(*ACROSS), TOGETHER, ("family", left)), False)
        self.assertIs(apart_holds(Grid(*ACROSS), TOGETHER, ("family", places)), True)
        self.assertIs(apart_holds(Grid(*LINKED), TOGETHER, ("family", places)), True)

    def test_one_place_more(self):
        grid, met = Grid(*ACROSS), set()
        for wrong in grown_by_one(family(grid)):
            due = is_due_family_paper(grid, wrong)
            self.assertIs(apart_holds(grid, TOGETHER, ("family", wrong)), due)
            met.add(due)
        self.assertEqual(met, {True, False})

    def test_a_parted_place(self):
        grid = Grid(*LINKED)
        for pair in (TWO_RINGS, THREE_APART):
            others = family(Grid(*pair))
            self.assertTrue(is_closed(others))
            self.assertIs(apart_holds(grid, TOGETHER, ("family", in_order(family(grid) + others))), False)
            self.assertIs(apart_holds(Grid(*pair), TOGETHER, ("family", others)), False)
            parted = [place for place in others if is_due_parted(place)]
            for place in parted:
                left = tuple(other for other in others if other != place)
                self.assertIs(apart_holds(Grid(*pair), TOGETHER, ("family", left)), False)

    def test_places_of_which_another_turn_is_parted(self):
        # The place itself is not parted, but another turn of it is.
        place = due_place(moved(Grid(*THREE_APART), ("turn rows",)).pair())
        met = [place for size in (4, 5) for place in all_places(size) if is_due_parted(place)]
        met = [place for place in met + [place] if not due_parted_at(place)]
        self.assertTrue(met)
        for place in met:
            self.assertIs(apart_holds(Grid(*place), TOGETHER, ("family", (place,))), False)
            self.assertIs(apart_holds(Grid(*place), TOGETHER, ("family", family(Grid(*place)))), False)
            self.assertIs(apart_holds(Grid(*place), APART, apart_paper(Grid(*place))), True)

    def test_places_of_size_two_are_not_parted(self):
        grid = Grid(*LINKED)
        self.assertIs(apart_holds(grid, TOGETHER, ("family", (LEAST, LINKED))), True)
        self.assertIs(apart_holds(grid, TOGETHER, ("family", (LEAST,))), False)

    def test_more_places_that_are_closed_again(self):
        grid = Grid(*LINKED)
        for other in (TREFOIL, CHAIN, STEPS, ACROSS):
            places = in_order(family(grid) + family(Grid(*other)))
            self.assertIs(apart_holds(grid, TOGETHER, ("family", places)), True)
            self.assertIs(apart_holds(Grid(*TWO_RINGS), TOGETHER, ("family", places)), False)


class WrongClaimsAndPapers(unittest.TestCase):
    def right_ones(self):
        row = (("grow column", 1, 1, "up"), ("turn rows",), ("shrink column", 1), ("turn rows",), ("turn rows",))
        return (
            (Grid(*TWO_RINGS), APART, (row + (("turn rows",),), 2)),
            (Grid(*LINKED), TOGETHER, ("family", (LINKED,))),
            (Grid(*ACROSS), TOGETHER, ("family", family(Grid(*ACROSS)))),
            (Grid(*CHAIN), TOGETHER, ("linked", ((0, 1), (1, 2)))),
        )

    def test_lists_bools_and_other_values_anywhere(self):
        for grid, claim, paper in self.right_ones():
            self.assertIs(apart_holds(grid, claim, paper), True)
            for wrong in spoiled(paper):
                self.assertIs(apart_holds(grid, claim, wrong), False)
            for wrong in spoiled(claim):
                self.assertIs(apart_holds(grid, wrong, paper), False)

    def test_words_and_numbers_in_the_place_of_others(self):
        for grid, claim, paper in self.right_ones():
            for wrong in changed_parts(paper, ("", "x", 7, -1, 10 ** 12, (), ("turn",), "family", "linked")):
                if wrong not in (paper, ((), 2)):
                    self.assertIs(apart_holds(grid, claim, wrong), False)

    def test_too_short_and_too_long(self):
        for grid, claim, paper in self.right_ones():
            for wrong in of_other_length(paper):
                due = wrong[:1] == ("linked",) and len(wrong) == 2 and all(len(pair) == 2 for pair in wrong[1])
                due = due and is_due_linked(grid, wrong[1])
                self.assertIs(apart_holds(grid, claim, wrong), due)
            for value in BARRED + ("x", 0, ()):
                self.assertIs(apart_holds(grid, claim, paper + (value,)), False)
                self.assertIs(apart_holds(grid, claim + (value,), paper), False)

    def test_claims_of_other_kinds(self):
        for grid, claim, paper in self.right_ones():
            other = TOGETHER if claim == APART else APART
            for wrong in (
                other, (), "apart", ("Apart",), ("apart", "apart"), (claim,), ("ring",), ("knotted",), ("rings", 2), None,
                True, 0, [], list(claim), grid, ("alike",) + grid.pair(), ("linkings", (0,)),
            ):
                self.assertIs(apart_holds(grid, wrong, paper), False)

    def test_one_ring(self):
        for pair in (LEAST, STEPS, TREFOIL, FIVE):
            grid = Grid(*pair)
            for paper in (((), 1), ((), 2), ("family", family(grid)), ("linked", ()), ("linked", ((0, 1),)), (), ((), 0)):
                for claim in (APART, TOGETHER):
                    self.assertIs(apart_holds(grid, claim, paper), False)

    def test_deep_and_long_values(self):
        grid = Grid(*LINKED)
        deep, hidden = (), [None]
        for _ in range(29):
            deep, hidden = (deep,), (hidden,)
        for value in (deep, hidden, (0,) * 200000, ((),) * 200000):
            for paper in (value, ("family", value), ("linked", value), (value, 2), ((), value)):
                self.assertIs(apart_holds(grid, TOGETHER, paper), False)
                self.assertIs(apart_holds(grid, APART, paper), False)
            self.assertIs(apart_holds(grid, value, ((), 2)), False)


if __name__ == "__main__":
    unittest.main()
