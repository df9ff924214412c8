"""[26] and [27]: questions, claims, their papers, and what is said against an untrue claim."""

import unittest

from gridknot.alexander import alexander
from gridknot.apart import apart_claim, apart_holds, apart_paper
from gridknot.brackets import kept_bracket
from gridknot.claims import answer_of, claim_holds, is_claim, is_question, paper_of, refute
from gridknot.colours import colourings, colours_claim, colours_holds, colours_paper
from gridknot.errors import InvalidClaim, InvalidQuestion
from gridknot.families import family
from gridknot.grids import Grid
from gridknot.making import beside, doubled, mirrored, turned_about
from gridknot.moves import moved, moves_open
from gridknot.plain import ring_claim, ring_holds, ring_paper
from gridknot.strands import linkings, rings
from gridknot.ways import ways
from support import (
    BARRED, CHAIN, EIGHT_KNOT, FIVE, LEAST, LINKED, NO_INTEGERS, SMALL_PRIMES, STEPS, TREFOIL, TWO_RINGS, all_grids,
    as_bools, as_lists, changed_parts, grow_moves, is_tuple_throughout, of_other_length, some_grids, spoiled,
)

QUESTIONS = (
    (("ring",), ("apart",), ("rings",), ("linkings",), ("alexander",), ("bracket",))
    + tuple(("colours", p) for p in SMALL_PRIMES)
    + tuple(("ways", m) for m in (1, 2, 3))
)
THREE_APART = ((0, 1, 2, 3, 4, 5), (1, 0, 3, 2, 5, 4))
ONE = ((0, 1),)


def some_of_all():
    pairs = (LEAST, LEAST[::-1], STEPS, TWO_RINGS, LINKED, FIVE, TREFOIL, CHAIN, THREE_APART, EIGHT_KNOT)
    return [Grid(*pair) for pair in pairs] + some_grids(4, 6) + some_grids(5, 10) + some_grids(6, 5)


def due_answer(grid, question):
    many, word = len(rings(grid)), question[0]
    told = linkings(grid)
    if word == "ring":
        return ring_claim(grid) if many == 1 else ("rings", many)
    if word == "apart":
        return apart_claim(grid) if many > 1 else ("rings", 1)
    ask = {
        "rings": lambda: many,
        "linkings": lambda: tuple(sorted(told[a][b] for a in range(many) for b in range(a))),
        "colours": lambda: colourings(grid, question[1]),
        "ways": lambda: ways(grid, question[1]),
        "alexander": lambda: alexander(grid),
        "bracket": lambda: kept_bracket(grid),
    }[word]
    return question + (ask(),)


def due_paper(grid, question):
    claim = due_answer(grid, question)
    if question == ("ring",) and claim[0] != "rings":
        return ring_paper(grid)
    if question == ("apart",) and claim[0] != "rings":
        return apart_paper(grid)
    return colours_paper(grid, question[1]) if question[0] == "colours" else ()


def may_answer(question):
    """Some of the claims that may answer the question."""
    word = question[0]
    rows = [(), (0,), (-1,), (1,), (0, 0), (-1, -1, 0), (0, 0, 0), (-1, 0, 0), (0, 1, 1), (-2,), (2,)]
    series = [(), ONE, ((0, 1), (1, -1), (2, 1)), ((-2, -1), (2, -1)), ((0, 1), (1, -1)), ((2, -1), (10, -1))]
    if word == "ring":
        return [("ring",), ("knotted",)] + [("rings", k) for k in range(2, 6)]
    if word == "apart":
        return [("apart",), ("together",), ("rings", 1)]
    if word == "linkings":
        return [question + (row,) for row in rows]
    if word in ("alexander", "bracket"):
        return [question + (told,) for told in series]
    return [question + (k,) for k in list(range(40)) + [49, 121, 125, 169, 343, 1331, 2197]]


class Questions(unittest.TestCase):
    def test_all_questions(self):
        for question in QUESTIONS:
            self.assertIs(is_question(question), True)
            self.assertIs(is_question(value=question), True)

    def test_primes_and_numbers_of_points(self):
        for number in list(range(-20, 30)) + [10 ** 12, -10 ** 12, 10 ** 40]:
            self.assertIs(is_question(("colours", number)), number in SMALL_PRIMES)
            self.assertIs(is_question(("ways", number)), number in (1, 2, 3))
        for value in NO_INTEGERS + BARRED:
            self.assertIs(is_question(("colours", value)), False)
            self.assertIs(is_question(("ways", value)), False)

    def wrong_ones(self):
        wrong = [None, True, False, 0, 1, -1, 10 ** 30, "", "ring", "rings", (), [], Grid(*LEAST), (0,), ((),)]
        wrong += [("knotted",), ("together",), ("unlike",), ("alike",), ("twist",), ("Ring",), ("ring ",), ("",), (None,)]
        wrong += [("colours",), ("ways",), ("colours", 2, 2), ("ways", 1, 1), ("colours", (3,)), ("ways", "two")]
        for question in QUESTIONS:
            changed = list(changed_parts(question, NO_INTEGERS + BARRED + ("x", 4, -1, 10 ** 30, ("ring",))))
            wrong += [value for value in changed + list(of_other_length(question)) if value not in QUESTIONS]
            wrong += list(as_lists(question)) + list(as_bools(question)) + [question + (0,), (question,)]
            wrong += [question + (value,) for value in BARRED + ((),)]
        return [value for value in wrong if not any(value is question for question in QUESTIONS)]

    def test_what_is_no_question(self):
        for value in self.wrong_ones():
            with self.subTest(value=value):
                self.assertIs(is_question(value), False)

    def test_what_is_no_question_is_told(self):
        grid = Grid(*LINKED)
        for value in self.wrong_ones():
            for ask in (answer_of, paper_of):
                with self.assertRaises(InvalidQuestion) as caught:
                    ask(grid, value)
                self.assertIs(caught.exception.value, value)
        self.assertEqual(grid.pair(), LINKED)


class Answers(unittest.TestCase):
    def test_against_asking_each_number(self):
        for grid in some_of_all():
            for question in QUESTIONS:
                due = due_answer(grid, question)
                told = answer_of(grid, question)
                self.assertEqual(told, due)
                self.assertIs(type(told), tuple)
                self.assertIs(is_claim(told), True)
                self.assertEqual(paper_of(grid, question), due_paper(grid, question))

    def test_known_answers(self):
        for pair, question, due in (
            (LEAST, ("ring",), ("ring",)), (TREFOIL, ("ring",), ("knotted",)), (LINKED, ("ring",), ("rings", 2)),
            (CHAIN, ("ring",), ("rings", 3)), (LEAST, ("apart",), ("rings", 1)), (TREFOIL, ("apart",), ("rings", 1)),
            (LINKED, ("apart",), ("together",)), (TWO_RINGS, ("apart",), ("apart",)), (LEAST, ("rings",), ("rings", 1)),
            (CHAIN, ("rings",), ("rings", 3)), (LEAST, ("linkings",), ("linkings", ())),
            (LINKED, ("linkings",), ("linkings", (-1,))), (TWO_RINGS, ("linkings",), ("linkings", (0,))),
            (THREE_APART, ("linkings",), ("linkings", (0, 0, 0))), (TREFOIL, ("colours", 3), ("colours", 3, 9)),
            (TREFOIL, ("ways", 3), ("ways", 3, 12)), (LEAST, ("bracket",), ("bracket", ONE)),
            (TWO_RINGS, ("alexander",), ("alexander", ())),
            (TREFOIL, ("alexander",), ("alexander", ((0, 1), (1, -1), (2, 1)))),
            (TREFOIL, ("bracket",), ("bracket", ((4, 1), (12, 1), (16, -1)))),
        ):
            self.assertEqual(answer_of(Grid(*pair), question), due)

    def test_the_row_of_linkings_is_sorted(self):
        for grid in (Grid(*CHAIN), mirrored(Grid(*CHAIN)), beside(Grid(*LINKED), mirrored(Grid(*LINKED)))):
            row = answer_of(grid, ("linkings",))[1]
            self.assertEqual(list(row), sorted(row))
            self.assertEqual(len(row), len(rings(grid)) * (len(rings(grid)) - 1) // 2)
        self.assertEqual(
            answer_of(beside(Grid(*LINKED), mirrored(Grid(*LINKED))), ("linkings",)), ("linkings", (-1, 0, 0, 0, 0, 1))
        )

    def test_every_answer_holds_by_its_paper(self):
        for grid in some_of_all():
            for question in QUESTIONS:
                claim, paper = answer_of(grid, question), paper_of(grid, question)
                self.assertIs(claim_holds(grid, claim, paper), True)
                if claim[0] in ("rings", "linkings", "ways", "alexander", "bracket"):
                    self.assertEqual(paper, ())

    def test_no_move_changes_an_answer(self):
        for grid in some_grids(5, 6) + [Grid(*TREFOIL), Grid(*LINKED), Grid(*TWO_RINGS), Grid(*STEPS)]:
            for move in moves_open(grid) + tuple(grow_moves(len(grid))[::23]):
                for question in QUESTIONS:
                    self.assertEqual(answer_of(moved(grid, move), question), answer_of(grid, question))

    def test_by_name_and_again(self):
        one, other = Grid(*TREFOIL), Grid(*TWO_RINGS)
        for question in QUESTIONS:
            first = (answer_of(question=question, grid=one), paper_of(question=question, grid=one))
            between = (answer_of(other, question), paper_of(other, question))
            again = Grid(list(TREFOIL[0]), list(TREFOIL[1]))
            self.assertEqual((answer_of(again, question), paper_of(again, question)), first)
            self.assertEqual((answer_of(other, question), paper_of(other, question)), between)
        self.assertEqual([one.pair(), other.pair()], [TREFOIL, TWO_RINGS])


class Claims(unittest.TestCase):
    def right_ones(self):
        claims = [("ring",), ("knotted",), ("apart",), ("together",)]
        claims += [("rings", k) for k in (0, 1, 2, 7, 10 ** 11)]
        claims += [("linkings", row) for row in ((), (0,), (-1,), (-1, -1, 0), (0, 0), (-10 ** 11, 5), (1, 2, 3))]
        claims += [("colours", p, k) for p in SMALL_PRIMES for k in (0, 1, 3, 10 ** 11)]
        claims += [("ways", m, k) for m in (1, 2, 3) for k in (0, 1, 12)]
        series = ((), ONE, ((-3, 2), (0, -1)), ((0, -1), (7, 1)), ((5, 10 ** 11),))
        return claims + [(word, told) for word in ("alexander", "bracket") for told in series]

    def test_claims_of_each_kind(self):
        for claim in self.right_ones():
            self.assertIs(is_claim(claim), True)
            self.assertIs(is_claim(value=claim), True)

    def test_one_part_more_or_less(self):
        for claim in self.right_ones():
            if len(claim) == 1:
                for part in (0, 1, (), "ring", None, True, [], ONE):
                    self.assertIs(is_claim(claim + (part,)), False)
            else:
                self.assertIs(is_claim(claim[:-1]), False)
                self.assertIs(is_claim(claim[1:]), False)
            for part in BARRED + (0, (), "x", ONE):
                if len(claim) > 1:
                    self.assertIs(is_claim(claim + (part,)), False)
            self.assertIs(is_claim((claim,)), False)
            self.assertIs(is_claim(claim[:1] + claim), False)

    def test_lists_bools_and_other_values_anywhere(self):
        for claim in self.right_ones():
            for wrong in spoiled(claim):
                self.assertIs(is_claim(wrong), False)

    def test_numbers_that_are_none(self):
        for value in NO_INTEGERS + (-1, -10 ** 11, Grid(*LEAST)):
            self.assertIs(is_claim(("rings", value)), False)
            self.assertIs(is_claim(("colours", 3, value)), False)
            self.assertIs(is_claim(("ways", 2, value)), False)
        for p in NO_INTEGERS + (-3, 0, 1, 4, 6, 8, 9, 10, 12, 15, 17, 10 ** 30):
            self.assertIs(is_claim(("colours", p, 9)), False)
        for m in NO_INTEGERS + (-1, 0, 4, 5, 10 ** 30):
            self.assertIs(is_claim(("ways", m, 9)), False)
        self.assertIs(is_claim(("rings", 10 ** 30)), True)

    def test_rows_that_are_none(self):
        for row in (
            (1, 0), (0, -1), (0, 1, 0), (0, 0, -1), (True,), (0, True), (0, None), ("0",), ((0,),), [0], [], "0", "", 0, None,
            (0, ()), (0, "x"), ("a", "b"), ((), ()), (0, [0]), Grid(*LEAST), (Grid(*LEAST),),
        ):
            self.assertIs(is_claim(("linkings", row)), False)

    def test_series_that_are_none(self):
        for series in (
            ((0, 0),), ((0, 1), (0, 1)), ((1, 1), (0, 1)), ((0,),), ((0, 1, 2),), (0, 1), ((0, True),), ((False, 1),), "t", 0,
            [(0, 1)], ([0, 1],), (("0", 1),), ((0, "1"),), None, (None,), ((0, None),), ((),),
        ):
            for word in ("alexander", "bracket"):
                self.assertIs(is_claim((word, series)), False)

    def test_what_is_no_claim(self):
        for value in BARRED + NO_INTEGERS + (
            "ring", ("Ring",), ("unlike",) + STEPS, ("alike",) + STEPS, ("plain",), (1, 2), (("ring",),), ("rings",),
            ("linkings",), ("colours", 3), ("ways", 2), ("alexander",), ("bracket",), ("twist", 0), ("crossings", 0), (0,),
        ):
            self.assertIs(is_claim(value), False)
            with self.assertRaises(InvalidClaim) as caught:
                refute(Grid(*STEPS), value)
            self.assertIs(caught.exception.value, value)


class Holds(unittest.TestCase):
    def test_each_claim_by_the_function_of_its_point(self):
        grids = [Grid(*pair) for pair in (STEPS, TREFOIL, LINKED, TWO_RINGS, FIVE)]
        papers = [(), (("shrink column", 0),), ("linked", ((0, 1),)), ((), 2), ("family", (TREFOIL,)), ("rings",), 0, "x"]
        for grid in grids:
            for question in (("ring",), ("apart",), ("colours", 3), ("colours", 5)):
                papers.append(paper_of(grid, question))
        for grid in grids:
            for paper in papers:
                for word in ("ring", "knotted"):
                    self.assertIs(claim_holds(grid, (word,), paper), ring_holds(grid, (word,), paper))
                for word in ("apart", "together"):
                    self.assertIs(claim_holds(grid, (word,), paper), apart_holds(grid, (word,), paper))
                for p in (3, 5):
                    for k in (1, p, p * p):
                        due = colours_holds(grid, ("colours", p, k), paper)
                        self.assertIs(claim_holds(grid, ("colours", p, k), paper), due)

    def test_empty_papers(self):
        for grid in (Grid(*LINKED), Grid(*TREFOIL), Grid(*CHAIN)):
            for question in (("rings",), ("linkings",), ("ways", 3), ("alexander",), ("bracket",)):
                for claim in may_answer(question) + [answer_of(grid, question)]:
                    due = claim == answer_of(grid, question)
                    self.assertIs(claim_holds(grid, claim, ()), due)
                    for wrong in NO_INTEGERS + BARRED + (((),), "()", ((), ()), (("turn rows",),), 0.0):
                        if wrong != ():
                            self.assertIs(claim_holds(grid, claim, wrong), False)

    def test_of_each_question_just_one_claim_is_true(self):
        for grid in some_of_all():
            for question in QUESTIONS:
                claims = may_answer(question)
                answer = answer_of(grid, question)
                if question[0] in ("ring", "apart", "rings"):
                    self.assertIn(answer, claims)
                true = [claim for claim in claims if refute(grid, claim) is None]
                self.assertEqual(true, [answer] if answer in claims else [])
                for claim in claims:
                    self.assertIs(claim_holds(grid, claim, paper_of(grid, question)), claim == answer)

    def test_untrue_claims_hold_by_no_paper_of_another_grid(self):
        grids = [Grid(*pair) for pair in (LEAST, STEPS, FIVE, TREFOIL, LINKED, TWO_RINGS, CHAIN, THREE_APART)]
        papers = [paper_of(grid, question) for grid in grids for question in QUESTIONS]
        papers += [("family", family(grid)) for grid in grids]
        papers += [("bracket", kept_bracket(grid)) for grid in grids] + [("alexander", alexander(grid)) for grid in grids]
        for grid in grids:
            for question in QUESTIONS:
                answer = answer_of(grid, question)
                for claim in may_answer(question)[:8]:
                    if claim != answer:
                        for paper in papers:
                            self.assertIs(claim_holds(grid, claim, paper), False)

    def test_lists_bools_and_other_values_anywhere(self):
        for grid in (Grid(*TREFOIL), Grid(*LINKED), Grid(*STEPS), Grid(*TWO_RINGS)):
            for question in QUESTIONS:
                claim, paper = answer_of(grid, question), paper_of(grid, question)
                for wrong in spoiled(claim):
                    self.assertIs(claim_holds(grid, wrong, paper), False)
                for wrong in spoiled(paper):
                    self.assertIs(claim_holds(grid, claim, wrong), False)
                for wrong in of_other_length(claim):
                    due = question == ("linkings",) and wrong == claim
                    self.assertIs(claim_holds(grid, wrong, paper), due)

    def test_claims_of_unlike_and_alike_grids_are_none_here(self):
        grid = Grid(*STEPS)
        self.assertIs(claim_holds(grid, ("alike",) + grid.pair(), ()), False)
        self.assertIs(claim_holds(grid, ("unlike",) + LINKED, ("rings",)), False)

    def test_by_name(self):
        self.assertIs(claim_holds(paper=(), claim=("rings", 1), grid=Grid(*STEPS)), True)
        self.assertIs(refute(claim=("rings", 1), grid=Grid(*STEPS)), None)


class Refute(unittest.TestCase):
    def test_true_claims(self):
        for grid in some_of_all():
            for question in QUESTIONS:
                self.assertIs(refute(grid, answer_of(grid, question)), None)

    def test_untrue_claims(self):
        for grid in some_of_all()[:14]:
            for question in QUESTIONS:
                answer = answer_of(grid, question)
                for claim in may_answer(question):
                    if claim[0] == question[0] and claim != answer:
                        told = refute(grid, claim)
                        self.assertEqual(told, (answer, paper_of(grid, question)))
                        self.assertIs(type(told), tuple)
                        self.assertIs(claim_holds(grid, *told), True)

    def test_knotted_and_together_go_by_ring_and_apart(self):
        for pair, claim, due in (
            (STEPS, ("knotted",), ("ring",)), (TREFOIL, ("ring",), ("knotted",)), (LINKED, ("apart",), ("together",)),
            (TWO_RINGS, ("together",), ("apart",)),
        ):
            other, paper = refute(Grid(*pair), claim)
            self.assertEqual(other, due)
            self.assertIs(claim_holds(Grid(*pair), other, paper), True)

    def test_a_kind_that_does_not_fit_the_number_of_rings(self):
        for pair, k in ((LINKED, 2), (TWO_RINGS, 2), (CHAIN, 3)):
            for word in ("ring", "knotted"):
                self.assertEqual(refute(Grid(*pair), (word,)), (("rings", k), ()))
        for pair in (LEAST, STEPS, TREFOIL):
            for word in ("apart", "together"):
                self.assertEqual(refute(Grid(*pair), (word,)), (("rings", 1), ()))

    def test_of_the_prime_and_the_points_of_the_claim(self):
        grid = Grid(*TREFOIL)
        for p in SMALL_PRIMES:
            other, paper = refute(grid, ("colours", p, 0))
            self.assertEqual(other, colours_claim(grid, p))
            self.assertIs(colours_holds(grid, other, paper), True)
        for m in (1, 2, 3):
            self.assertEqual(refute(grid, ("ways", m, 0)), (("ways", m, ways(grid, m)), ()))

    def test_numbers_of_rings(self):
        for pair, many in ((LEAST, 1), (LINKED, 2), (CHAIN, 3)):
            for k in (0, 1, 2, 3, 4, 10 ** 11):
                due = None if k == many else (("rings", many), ())
                self.assertEqual(refute(Grid(*pair), ("rings", k)), due)

    def test_every_claim_on_small_grids(self):
        for grid in all_grids(3) + all_grids(4)[::40]:
            for question in (("ring",), ("apart",), ("rings",)):
                for claim in may_answer(question):
                    told = refute(grid, claim)
                    if told is not None:
                        self.assertNotEqual(told[0], claim)
                        self.assertIs(claim_holds(grid, *told), True)
                        self.assertTrue(is_tuple_throughout(told[0][1:]))

    def test_turned_about_and_doubled_grids(self):
        for grid in (doubled(Grid(*LEAST)), turned_about(Grid(*TREFOIL))):
            for question in QUESTIONS:
                self.assertIs(refute(grid, answer_of(grid, question)), None)


if __name__ == "__main__":
    unittest.main()
