"""[15]: colourings, how many there are, and the papers of their number."""

import unittest
from itertools import combinations, product

from gridknot.colours import colourings, colours_claim, colours_holds, colours_paper, is_colouring
from gridknot.errors import InvalidNumber
from gridknot.grids import Grid, o_column, x_column
from gridknot.making import beside, doubled, mirrored, summed, tipped, turned_about, upside_down
from gridknot.moves import moved, moves_open
from gridknot.strands import crossings, rings
from support import (
    BARRED, CHAIN, EIGHT_KNOT, FIVE, FIVE_ONE, FIVE_TWO, KNOWN, LEAST, LINKED, NO_INTEGERS, SMALL_PRIMES, STEPS,
    TREFOIL, TWO_RINGS, WHITEHEAD, all_grids, changed_parts, grow_moves, is_tuple_throughout, of_other_length,
    some_grids, spoiled,
)

NO_PRIMES = (-13, -2, -1, 0, 1, 4, 6, 8, 9, 10, 12, 14, 15, 17, 19, 10 ** 30, Grid(*LEAST)) + NO_INTEGERS


def course(grid, r):
    """The columns that cross row r, from its O to its X."""
    a, b = o_column(grid, r), x_column(grid, r)
    crossed = [i for i, k in crossings(grid) if k == r]
    return crossed if a < b else crossed[::-1]


def due_to_colour(grid, p, numbers):
    """Whether the numbers, each below p, obey each row, in the document's words."""
    for r in range(len(grid)):
        v = numbers[o_column(grid, r)]
        for c in course(grid, r):
            v = (2 * numbers[c] - v) % p
        if v != numbers[x_column(grid, r)]:
            return False
    return True


def all_colourings(grid, p):
    return [numbers for numbers in product(range(p), repeat=len(grid)) if due_to_colour(grid, p, numbers)]


def sums_of(basis, p):
    """All sums of multiples of the rows of basis."""
    found = set()
    for factors in product(range(p), repeat=len(basis)):
        found.add(tuple(sum(f * k for f, k in zip(factors, place)) % p for place in zip(*basis)))
    return found


def due_equation(grid, r, p):
    """The equation of row r as multiples of the columns' numbers, read off the numbers 1 at one column, 0 elsewhere."""
    multiples = []
    for i in range(len(grid)):
        numbers = [0] * len(grid)
        numbers[i] = 1
        v = numbers[o_column(grid, r)]
        for c in course(grid, r):
            v = 2 * numbers[c] - v
        multiples.append((v - numbers[x_column(grid, r)]) % p)
    return multiples


def due_independent(rows, p):
    """Whether no sum of multiples of the rows, but for that of no row at all, is 0 throughout."""
    for factors in product(range(p), repeat=len(rows)):
        if any(factors) and all(sum(f * k for f, k in zip(factors, place)) % p == 0 for place in zip(*rows)):
            return False
    return True


class IsColouring(unittest.TestCase):
    def test_known_values(self):
        trefoil = Grid(*TREFOIL)
        self.assertIs(is_colouring(trefoil, 3, (1, 1, 1, 1, 1)), True)
        self.assertIs(is_colouring(trefoil, 3, (1, 0, 2, 1, 2)), True)
        self.assertIs(is_colouring(trefoil, 3, (1, 0, 2, 1, 1)), False)
        self.assertIs(is_colouring(trefoil, 5, (1, 0, 2, 1, 2)), False)
        self.assertIs(is_colouring(Grid(*TWO_RINGS), 2, (0, 0, 1, 1)), True)
        self.assertIs(is_colouring(Grid(*TWO_RINGS), 2, (0, 1, 0, 1)), False)
        # By 2 the two linked rings may have unlike numbers, by 3 not.
        self.assertIs(is_colouring(Grid(*LINKED), 2, (0, 1, 0, 1)), True)
        self.assertIs(is_colouring(Grid(*LINKED), 3, (0, 1, 0, 1)), False)

    def test_all_tuples_of_numbers(self):
        for grid in all_grids(3) + some_grids(4, 6) + [Grid(*TREFOIL), Grid(*FIVE)]:
            for p in (2, 3):
                for numbers in product(range(p), repeat=len(grid)):
                    self.assertIs(is_colouring(grid, p, numbers), due_to_colour(grid, p, numbers))

    def test_all_alike_is_always_one(self):
        for pair in KNOWN:
            for p in SMALL_PRIMES:
                for k in (0, 1, p - 1):
                    self.assertIs(is_colouring(Grid(*pair), p, (k,) * len(pair[0])), True)

    def test_numbers_that_are_too_great_or_below_zero(self):
        grid = Grid(*LEAST)
        for p in SMALL_PRIMES:
            for k in (p, p + 1, 2 * p, -1, -p, 10 ** 30, -10 ** 30):
                self.assertIs(is_colouring(grid, p, (k, k)), False)
                self.assertIs(is_colouring(grid, p, (0, k)), False)

    def test_any_value(self):
        grid = Grid(*TREFOIL)
        right = (1, 0, 2, 1, 2)
        for value in list(spoiled(right)) + list(of_other_length(right)):
            with self.subTest(value=value):
                self.assertIs(is_colouring(grid, 3, value), False)
        for value in (1, 0, "10212", "", (), (right,), ((1,), (0,), (2,), (1,), (2,)), ("1", "0", "2", "1", "2")):
            self.assertIs(is_colouring(grid, 3, value), False)

    def test_what_is_no_such_prime(self):
        grid = Grid(*TREFOIL)
        for p in NO_PRIMES:
            for value in ((1, 1, 1, 1, 1), (), None, [1]):
                with self.assertRaises(InvalidNumber) as caught:
                    is_colouring(grid, p, value)
                self.assertIs(caught.exception.value, p)


class HowMany(unittest.TestCase):
    def test_known_numbers(self):
        for pair, due in (
            (LEAST, (2, 3, 5, 7, 11, 13)),
            (STEPS, (2, 3, 5, 7, 11, 13)),
            (FIVE, (2, 3, 5, 7, 11, 13)),
            (TWO_RINGS, (4, 9, 25, 49, 121, 169)),
            (LINKED, (4, 3, 5, 7, 11, 13)),
            (TREFOIL, (2, 9, 5, 7, 11, 13)),
            (EIGHT_KNOT, (2, 3, 25, 7, 11, 13)),
            (FIVE_ONE, (2, 3, 25, 7, 11, 13)),
            (FIVE_TWO, (2, 3, 5, 49, 11, 13)),
            (CHAIN, (8, 3, 5, 7, 11, 13)),
            (WHITEHEAD, (4, 3, 5, 7, 11, 13)),
        ):
            grid = Grid(*pair)
            self.assertEqual(tuple(colourings(grid, p) for p in SMALL_PRIMES), due)
            for p in SMALL_PRIMES:
                self.assertEqual(colours_claim(grid, p), ("colours", p, colourings(grid, p)))

    def test_counted_one_by_one(self):
        for grid in all_grids(2) + all_grids(3) + all_grids(4)[::5] + some_grids(5, 12) + some_grids(6, 4):
            for p in (2, 3, 5) if len(grid) < 6 else (2, 3):
                self.assertEqual(colourings(grid, p), len(all_colourings(grid, p)))

    def test_they_stay_under_all_moves(self):
        for grid in some_grids(5, 8) + some_grids(7, 3) + [Grid(*pair) for pair in KNOWN]:
            due = [colourings(grid, p) for p in SMALL_PRIMES]
            for move in moves_open(grid) + tuple(grow_moves(len(grid))[::9]):
                end = moved(grid, move)
                self.assertEqual([colourings(end, p) for p in SMALL_PRIMES], due)
            for make in (mirrored, tipped, turned_about, upside_down):
                self.assertEqual([colourings(make(grid), p) for p in SMALL_PRIMES], due)

    def test_grids_made_of_others(self):
        for one, other in ((TREFOIL, TREFOIL), (EIGHT_KNOT, LINKED), (FIVE, FIVE_TWO)):
            one, other = Grid(*one), Grid(*other)
            for p in SMALL_PRIMES:
                product_of_both = colourings(one, p) * colourings(other, p)
                self.assertEqual(colourings(beside(one, other), p), product_of_both)
                self.assertEqual(colourings(summed(one, 1, other, 2), p) * p, product_of_both)
        for grid in (doubled(some_grids(8, 1)[0]), beside(*some_grids(8, 2))):
            for p in SMALL_PRIMES:
                claim, paper = colours_claim(grid, p), colours_paper(grid, p)
                self.assertIs(colours_holds(grid, claim, paper), True)

    def test_what_is_no_such_prime(self):
        grid = Grid(*TREFOIL)
        for p in NO_PRIMES:
            for ask in (colourings, colours_claim, colours_paper):
                with self.subTest(p=p, ask=ask):
                    with self.assertRaises(InvalidNumber) as caught:
                        ask(grid, p)
                    self.assertIs(caught.exception.value, p)


class Papers(unittest.TestCase):
    def grids(self):
        return all_grids(2) + all_grids(3) + all_grids(4)[::9] + some_grids(5, 8) + some_grids(7, 4) + [
            Grid(*pair) for pair in KNOWN
        ]

    def test_a_basis_and_the_rows_that_leave_no_more(self):
        for grid in self.grids():
            for p in SMALL_PRIMES:
                paper = colours_paper(grid, p)
                self.assertTrue(is_tuple_throughout(paper))
                basis, rows = paper
                self.assertEqual(p ** len(basis), colourings(grid, p))
                self.assertEqual(len(rows), len(grid) - len(basis))
                self.assertEqual(list(rows), sorted(set(rows)))
                self.assertTrue(all(r in range(len(grid)) for r in rows))
                firsts = [next(i for i, k in enumerate(numbers) if k) for numbers in basis]
                self.assertEqual(firsts, sorted(set(firsts)))
                for numbers, place in zip(basis, firsts):
                    self.assertTrue(due_to_colour(grid, p, numbers))
                    self.assertEqual([other[place] for other in basis], [int(other is numbers) for other in basis])
                self.assertEqual(colours_paper(grid, p), paper)

    def test_the_sums_of_the_basis_are_all_colourings(self):
        for grid in some_grids(4, 8) + some_grids(5, 4) + [Grid(*TREFOIL), Grid(*TWO_RINGS), Grid(*LINKED)]:
            for p in (2, 3):
                self.assertEqual(sums_of(colours_paper(grid, p)[0], p), set(all_colourings(grid, p)))

    def test_known_papers(self):
        self.assertEqual(colours_paper(Grid(*TREFOIL), 3)[0], ((1, 0, 2, 1, 2), (0, 1, 2, 0, 2)))
        self.assertEqual(colours_paper(Grid(*TWO_RINGS), 5)[0], ((1, 1, 0, 0), (0, 0, 1, 1)))
        self.assertEqual(colours_paper(Grid(*LEAST), 7)[0], ((1, 1),))

    def test_they_hold(self):
        for grid in self.grids():
            for p in SMALL_PRIMES:
                self.assertIs(colours_holds(grid, colours_claim(grid, p), colours_paper(grid, p)), True)

    def test_by_name(self):
        grid = Grid(*TREFOIL)
        self.assertIs(is_colouring(value=(1,) * 5, p=3, grid=grid), True)
        self.assertEqual(colourings(p=3, grid=grid), 9)
        claim, paper = colours_claim(p=3, grid=grid), colours_paper(p=3, grid=grid)
        self.assertIs(colours_holds(paper=paper, claim=claim, grid=grid), True)

    def test_every_choice_of_rows_holds_if_their_equations_are_independent(self):
        met = set()
        for grid, p in (
            (Grid(*TREFOIL), 3), (Grid(*TREFOIL), 2), (Grid(*LINKED), 2), (Grid(*LINKED), 3), (Grid(*TWO_RINGS), 3),
            (Grid(*CHAIN), 2), (Grid(*EIGHT_KNOT), 2), (Grid(*STEPS), 5),
        ):
            claim, (basis, rows) = colours_claim(grid, p), colours_paper(grid, p)
            for chosen in combinations(range(len(grid)), len(rows)):
                due = due_independent([due_equation(grid, r, p) for r in chosen], p)
                self.assertIs(colours_holds(grid, claim, (basis, chosen)), due)
                met.add(due)
        self.assertEqual(met, {True, False})

    def test_rows_too_few_too_many_and_in_another_order(self):
        for pair in (TREFOIL, TWO_RINGS, EIGHT_KNOT, LINKED):
            grid = Grid(*pair)
            for p in (2, 3, 5):
                claim, (basis, rows) = colours_claim(grid, p), colours_paper(grid, p)
                others = [r for r in range(len(grid)) if r not in rows]
                wrong = [rows[1:], rows[:-1], tuple(range(len(grid))), tuple(sorted(rows + (others[0],)))]
                wrong += [rows[::-1], rows + rows[-1:], rows[:1] + rows, rows[:-1] + (len(grid),), (-1,) + rows[1:]]
                for value in wrong:
                    if value != rows:
                        self.assertIs(colours_holds(grid, claim, (basis, value)), False)

    def test_no_row_where_there_is_no_equation_to_be_told(self):
        # Of two rings of two columns each, four equations tell only two things.
        grid = Grid(*TWO_RINGS)
        basis = ((1, 1, 0, 0), (0, 0, 1, 1))
        for rows in ((0, 2), (0, 3), (1, 2), (1, 3)):
            self.assertIs(colours_holds(grid, ("colours", 3, 9), (basis, rows)), True)
        for rows in ((0, 1), (2, 3), (), (0,), (0, 1, 2), (2, 0)):
            self.assertIs(colours_holds(grid, ("colours", 3, 9), (basis, rows)), False)


class WrongClaims(unittest.TestCase):
    def test_other_numbers(self):
        for pair in (LEAST, TREFOIL, TWO_RINGS):
            grid = Grid(*pair)
            for p in SMALL_PRIMES:
                paper = colours_paper(grid, p)
                due = colourings(grid, p)
                for k in (0, 1, p, p * p, p ** 3, due + 1, due - 1, -due, 10 ** 12):
                    self.assertIs(colours_holds(grid, ("colours", p, k), paper), k == due)

    def test_another_prime(self):
        grid = Grid(*LEAST)
        for p in SMALL_PRIMES + (0, 1, 4, 6, 9, 15, 17, -3):
            for q in SMALL_PRIMES:
                # The paper of the plain ring is the same by all primes, the number is not.
                self.assertIs(colours_holds(grid, ("colours", p, q), (((1, 1),), (0,))), p == q)

    def test_with_one_part_changed(self):
        grid = Grid(*TREFOIL)
        claim, paper = colours_claim(grid, 3), colours_paper(grid, 3)
        for wrong in list(spoiled(claim)) + list(of_other_length(claim)):
            with self.subTest(claim=wrong):
                self.assertIs(colours_holds(grid, wrong, paper), False)
        for wrong in list(spoiled(paper)) + list(of_other_length(paper)):
            with self.subTest(paper=wrong):
                self.assertIs(colours_holds(grid, claim, wrong), False)

    def test_papers_with_one_number_changed(self):
        for pair, p in ((TREFOIL, 3), (TWO_RINGS, 2), (EIGHT_KNOT, 5), (LINKED, 2)):
            grid = Grid(*pair)
            claim, paper = colours_claim(grid, p), colours_paper(grid, p)
            basis, rows = paper
            for wrong in changed_parts(basis, tuple(range(-1, p + 1)) + ("x", (), (0,), 10 ** 12)):
                if wrong != basis:
                    self.assertIs(colours_holds(grid, claim, (wrong, rows)), False)
            for wrong in changed_parts(paper, (-1, 10 ** 12, "x", "", (), ((),))):
                self.assertIs(colours_holds(grid, claim, wrong), False)

    def test_other_bases_of_the_same_colourings(self):
        grid = Grid(*TREFOIL)
        rows = colours_paper(grid, 3)[1]
        right = ((1, 0, 2, 1, 2), (0, 1, 2, 0, 2))
        self.assertIs(colours_holds(grid, ("colours", 3, 9), (right, rows)), True)
        for basis in (
            right[::-1],
            ((2, 0, 1, 2, 1), right[1]),
            (right[0], (0, 2, 1, 0, 1)),
            ((1, 1, 1, 1, 1), right[1]),
            (right[0], (1, 1, 1, 1, 1)),
            (right[0], right[0]),
            right + ((0, 0, 0, 0, 0),),
            ((0, 0, 0, 0, 0),) + right,
            (right[0], (0, 0, 0, 0, 0)),
            right[:1],
            (),
        ):
            for k in (1, 3, 9, 27):
                self.assertIs(colours_holds(grid, ("colours", 3, k), (basis, rows)), False)
                self.assertIs(colours_holds(grid, ("colours", 3, k), (basis, tuple(range(5 - len(basis))))), False)

    def test_a_smaller_basis_with_more_rows(self):
        # Rows that are not independent do not make up for a colouring that is left out.
        grid = Grid(*TREFOIL)
        for rows in combinations(range(5), 4):
            self.assertIs(colours_holds(grid, ("colours", 3, 3), (((1, 1, 1, 1, 1),), rows)), False)
            self.assertIs(colours_holds(grid, ("colours", 5, 5), (((1, 1, 1, 1, 1),), rows)), True)

    def test_claims_of_other_kinds(self):
        grid = Grid(*LEAST)
        paper = (((1, 1),), (0,))
        self.assertIs(colours_holds(grid, ("colours", 5, 5), paper), True)
        for claim in (
            ("ways", 5, 5), ("colours", 5), ("colours",), (5, 5), ("Colours", 5, 5), ("colours", "5", 5),
            ("colours", 5, "5"), ("colours", (5,), 5), ("colours", 5, (5,)), ("colours", 5, 5, 5), "colours", None,
            True, 5, (), [], grid, ("colours", -5, 5),
        ):
            self.assertIs(colours_holds(grid, claim, paper), False)
        for value in BARRED + ("x", 0, (), (paper,), paper[:1], paper[1:], paper + ((),), (paper[0], 0)):
            self.assertIs(colours_holds(grid, ("colours", 5, 5), value), False)

    def test_a_claim_of_one_grid_about_another(self):
        met = set()
        for one in some_grids(5, 12):
            for other in some_grids(5, 12):
                for p in (2, 3):
                    held = colours_holds(other, colours_claim(one, p), colours_paper(one, p))
                    if held:
                        self.assertEqual(colourings(one, p), colourings(other, p))
                    met.add(held)
        self.assertEqual(met, {True, False})

    def test_nothing_changes_and_the_same_is_told_again(self):
        one, other = Grid(*TREFOIL), Grid(*LINKED)
        asked = [
            lambda grid: [colourings(grid, p) for p in SMALL_PRIMES],
            lambda grid: [colours_paper(grid, p) for p in SMALL_PRIMES],
            lambda grid: colours_claim(grid, 2),
            lambda grid: is_colouring(grid, 3, (1, 0, 2, 1, 2)),
            rings,
        ]
        first = [ask(one) for ask in asked]
        between = [ask(other) for ask in asked]
        self.assertEqual([ask(Grid(list(TREFOIL[0]), list(TREFOIL[1]))) for ask in asked], first)
        self.assertEqual([ask(other) for ask in asked], between)
        self.assertEqual([one.pair(), other.pair()], [TREFOIL, LINKED])


if __name__ == "__main__":
    unittest.main()
