"""[25]: the claim that two grids do not tell one link, and its papers."""

import unittest

from gridknot.alexander import alexander
from gridknot.brackets import kept_bracket
from gridknot.colours import colourings
from gridknot.grids import Grid
from gridknot.making import beside, doubled, mirrored, summed, tipped, turned_about, upside_down
from gridknot.moves import moved, moves_open
from gridknot.strands import crossings, linkings, rings
from gridknot.unlike import unlike_holds, unlike_paper
from gridknot.ways import ways
from support import (
    BARRED, CHAIN, EIGHT_KNOT, FIVE, FIVE_ONE, FIVE_TWO, KNOWN, LEAST, LINKED, SMALL_PRIMES, STEPS, TREFOIL,
    TWO_RINGS, WHITEHEAD, changed_parts, grow_moves, of_other_length, some_grids, spoiled,
)

PAPERS = (
    (("rings",), ("linkings",)) + tuple(("colours", p) for p in SMALL_PRIMES) + (("alexander",), ("bracket",))
    + (("ways", 2), ("ways", 3))
)
IMAGE = mirrored(Grid(*TREFOIL)).pair()
THREE_APART = ((0, 1, 2, 3, 4, 5), (1, 0, 3, 2, 5, 4))


def claim_of(grid):
    return ("unlike",) + grid.pair()


def sorted_linkings(grid):
    told = linkings(grid)
    return sorted(told[a][b] for a in range(len(told)) for b in range(a))


def due_to_hold(one, other, paper):
    ask = {
        "rings": lambda grid: len(rings(grid)),
        "linkings": sorted_linkings,
        "colours": lambda grid: colourings(grid, paper[1]),
        "ways": lambda grid: ways(grid, paper[1]),
        "alexander": alexander,
        "bracket": kept_bracket,
    }[paper[0]]
    return ask(one) != ask(other)


def due_paper(one, other):
    for paper in PAPERS:
        if due_to_hold(one, other, paper):
            return paper
    return None


def known_grids():
    grids = [Grid(*pair) for pair in KNOWN + (IMAGE, THREE_APART)] + [doubled(Grid(*STEPS))]
    return [grid for grid in grids if len(crossings(grid)) <= 12]


class Found(unittest.TestCase):
    def test_known_ones(self):
        trefoil, chain = Grid(*TREFOIL), Grid(*CHAIN)
        for one, other, due in (
            (Grid(*LEAST), Grid(*TWO_RINGS), ("rings",)),
            (Grid(*LINKED), chain, ("rings",)),
            (Grid(*LINKED), Grid(*TWO_RINGS), ("linkings",)),
            (Grid(*LINKED), mirrored(Grid(*LINKED)), ("linkings",)),
            (chain, Grid(*THREE_APART), ("linkings",)),
            (trefoil, Grid(*LEAST), ("colours", 3)),
            (trefoil, Grid(*EIGHT_KNOT), ("colours", 3)),
            (Grid(*EIGHT_KNOT), Grid(*STEPS), ("colours", 5)),
            (Grid(*FIVE_TWO), Grid(*LEAST), ("colours", 7)),
            (Grid(*EIGHT_KNOT), Grid(*FIVE_ONE), ("alexander",)),
            (trefoil, Grid(*IMAGE), ("bracket",)),
            (Grid(*LEAST), Grid(*STEPS), None),
            (Grid(*FIVE), Grid(*LEAST), None),
            (trefoil, turned_about(trefoil), None),
        ):
            self.assertEqual(unlike_paper(one, other), due)
            self.assertEqual(unlike_paper(other, one), due)

    def test_against_asking_one_after_another(self):
        grids = known_grids()
        met = set()
        for one in grids:
            for other in grids:
                due = due_paper(one, other)
                self.assertEqual(unlike_paper(one, other), due)
                met.add(due)
        due = {("rings",), ("linkings",), ("colours", 3), ("colours", 5), ("colours", 7), ("alexander",), ("bracket",), None}
        self.assertLessEqual(due, met)

    def test_of_grids_that_moves_join_there_is_none(self):
        for grid in some_grids(5, 15) + [Grid(*TREFOIL), Grid(*CHAIN)]:
            for move in moves_open(grid) + tuple(grow_moves(len(grid))[::17]):
                self.assertIs(unlike_paper(grid, moved(grid, move)), None)
                for paper in PAPERS:
                    self.assertIs(unlike_holds(grid, claim_of(moved(grid, move)), paper), False)

    def test_of_grids_that_tell_the_same_link_there_is_none(self):
        for grid in some_grids(6, 10) + [Grid(*pair) for pair in KNOWN[:7]]:
            for make in (tipped, upside_down):
                self.assertIs(unlike_paper(grid, make(grid)), None)
            self.assertIs(unlike_paper(grid, grid), None)

    def test_some_grids(self):
        grids = some_grids(4, 8) + some_grids(5, 12)
        for one in grids:
            for other in grids[::2]:
                paper = unlike_paper(one, other)
                self.assertEqual(paper, due_paper(one, other))
                if paper is not None:
                    self.assertIs(unlike_holds(one, claim_of(other), paper), True)
                    self.assertIs(type(paper), tuple)

    def test_by_name_and_again(self):
        one, other = Grid(*TREFOIL), Grid(*EIGHT_KNOT)
        first = unlike_paper(grid=one, other=other)
        self.assertEqual(unlike_paper(other=one, grid=one), None)
        self.assertEqual(unlike_paper(Grid(list(TREFOIL[0]), TREFOIL[1]), other), first)
        self.assertIs(unlike_holds(paper=first, claim=claim_of(other), grid=one), True)
        self.assertEqual([one.pair(), other.pair()], [TREFOIL, EIGHT_KNOT])


class Holds(unittest.TestCase):
    def test_each_paper_on_known_grids(self):
        grids = known_grids()
        met = set()
        for one in grids:
            for other in grids:
                for paper in PAPERS + (("ways", 1),):
                    due = due_to_hold(one, other, paper)
                    self.assertIs(unlike_holds(one, claim_of(other), paper), due)
                    met.add((paper[0], due))
        for word in ("rings", "linkings", "colours", "ways", "alexander", "bracket"):
            self.assertLessEqual({(word, True), (word, False)}, met)

    def test_later_papers_hold_as_well(self):
        one, other = Grid(*TREFOIL), Grid(*LEAST)
        for paper, due in (
            (("rings",), False), (("linkings",), False), (("colours", 2), False), (("colours", 3), True),
            (("colours", 5), False), (("alexander",), True), (("bracket",), True), (("ways", 1), False),
            (("ways", 2), False), (("ways", 3), True),
        ):
            self.assertIs(unlike_holds(one, claim_of(other), paper), due)
            self.assertIs(unlike_holds(other, claim_of(one), paper), due)

    def test_linkings_of_unlike_numbers_of_rings(self):
        for one, other in ((LEAST, TWO_RINGS), (TWO_RINGS, THREE_APART), (LINKED, CHAIN)):
            self.assertIs(unlike_holds(Grid(*one), claim_of(Grid(*other)), ("linkings",)), True)
        # No two rings stand in a grid of one ring, so that both rows are empty.
        self.assertIs(unlike_holds(Grid(*LEAST), claim_of(Grid(*TREFOIL)), ("linkings",)), False)

    def test_linkings_whatever_the_numbers_of_the_rings(self):
        grid = Grid(*CHAIN)
        for make in (tipped, upside_down):
            self.assertIs(unlike_holds(grid, claim_of(make(grid)), ("linkings",)), False)
        self.assertNotEqual(linkings(beside(Grid(*LINKED), Grid(*LEAST))), linkings(beside(Grid(*LEAST), Grid(*LINKED))))
        one, other = beside(Grid(*LINKED), Grid(*LEAST)), beside(Grid(*LEAST), Grid(*LINKED))
        self.assertIs(unlike_holds(one, claim_of(other), ("linkings",)), False)

    def test_the_whitehead_link(self):
        one, other = Grid(*WHITEHEAD), Grid(*TWO_RINGS)
        self.assertIs(unlike_holds(one, claim_of(other), ("linkings",)), False)
        self.assertIs(unlike_holds(one, claim_of(other), unlike_paper(one, other)), True)

    def test_sums_that_only_the_bracket_tells(self):
        granny = summed(Grid(*TREFOIL), 0, Grid(*TREFOIL), 0)
        square = summed(Grid(*TREFOIL), 0, Grid(*IMAGE), 0)
        if max(len(crossings(granny)), len(crossings(square))) <= 12:
            self.assertEqual(unlike_paper(granny, square), ("bracket",))


class WrongClaimsAndPapers(unittest.TestCase):
    def setUp(self):
        self.grid = Grid(*TREFOIL)
        self.claim = claim_of(Grid(*STEPS))

    def test_lists_bools_and_other_values_anywhere(self):
        for paper in (("colours", 3), ("bracket",), ("alexander",), ("ways", 3)):
            self.assertIs(unlike_holds(self.grid, self.claim, paper), True)
            for wrong in list(spoiled(paper)) + list(of_other_length(paper)):
                self.assertIs(unlike_holds(self.grid, self.claim, wrong), False)
            for wrong in list(spoiled(self.claim)) + list(of_other_length(self.claim)):
                self.assertIs(unlike_holds(self.grid, wrong, paper), False)
        self.assertIs(unlike_holds(self.grid, claim_of(Grid(*TWO_RINGS)), ("ways", True)), False)

    def test_claims_that_make_no_grid(self):
        for wrong in changed_parts(self.claim, (-1, 0, 1, 3, "", "x", (), (0,), (0, 1), (0, 1, 2), 10 ** 12)):
            due = False
            if isinstance(wrong, tuple) and wrong[:1] == ("unlike",):
                try:
                    due = all(isinstance(rows, tuple) for rows in wrong[1:]) and Grid(*wrong[1:]) is not None
                except ValueError:
                    due = False
            self.assertIs(unlike_holds(self.grid, wrong, ("colours", 3)), due)

    def test_claims_of_other_kinds(self):
        pair = Grid(*STEPS).pair()
        for claim in (
            ("alike",) + pair, ("unlike",), ("unlike", pair), ("unlike", pair[0]), pair, ("Unlike",) + pair, "unlike",
            ("unlike",) + pair + ((),), (("unlike",),) + pair, ("ring",), ("rings", 2), ("unlike", (), ()), None, True,
            ("unlike", (0,), (0,)), ("unlike", (0, 1, 2), (0, 1, 2)), ("unlike", "012", "120"), 0, [], (), self.grid,
            ("unlike", (0, 1), (1, 0, 2)), ("unlike", 3, 3), ["unlike", pair[0], pair[1]],
        ):
            self.assertIs(unlike_holds(self.grid, claim, ("colours", 3)), False)

    def test_papers_of_other_forms(self):
        for paper in (
            (), "rings", ("Rings",), ("rings", 1), ("rings", 2), ("linkings", (0,)), ("colours",), ("colours", 3, 9),
            ("colours", 4), ("colours", 1), ("colours", 0), ("colours", -3), ("colours", 9), ("colours", 17),
            ("colours", "3"), ("colours", (3,)), ("colours", ()), ("ways",), ("ways", 0), ("ways", 4), ("ways", -1),
            ("ways", 3, 12), ("ways", "3"), ("ways", 10 ** 12), ("alexander", ()), ("bracket", ()), ("alexander", 3),
            ("bracket", 3), ("family", ()), ("ring",), ("twist",), (("bracket",),), (("colours", 3),), (3, "colours"), 3,
            (3,), ((),), ("",), None, True, [], ["bracket"], ["colours", 3], self.grid, ("apart",), ("knotted",),
        ):
            self.assertIs(unlike_holds(self.grid, self.claim, paper), False)

    def test_deep_and_long_values(self):
        deep, hidden = (), [None]
        for _ in range(29):
            deep, hidden = (deep,), (hidden,)
        for value in (deep, hidden, (0,) * 200000, ((),) * 200000):
            self.assertIs(unlike_holds(self.grid, value, ("bracket",)), False)
            self.assertIs(unlike_holds(self.grid, self.claim, value), False)
            self.assertIs(unlike_holds(self.grid, self.claim, ("colours", value)), False)
            self.assertIs(unlike_holds(self.grid, ("unlike", value, value), ("bracket",)), False)

    def test_bars_hold_in_every_place(self):
        for value in BARRED:
            for word in ("rings", "linkings", "alexander", "bracket"):
                self.assertIs(unlike_holds(self.grid, self.claim, (word, value)), False)
            for word in ("colours", "ways"):
                self.assertIs(unlike_holds(self.grid, self.claim, (word, value)), False)
                self.assertIs(unlike_holds(self.grid, self.claim, (word, 3, value)), False)


if __name__ == "__main__":
    unittest.main()
