"""[29] to [31], and same_state of [32]: desks, their deeds, reports, watched questions and histories."""

import unittest

from gridknot.claims import answer_of, claim_holds, paper_of
from gridknot.desk import Desk, same_state
from gridknot.errors import InvalidDeed, InvalidMove, InvalidQuestion, NothingToUndo
from gridknot.grids import Grid
from gridknot.making import mirrored, turned_about
from gridknot.moves import moved, moves_open
from gridknot.told import told, untold
from leading import QUESTIONS, Model, course, deeds_open, grid_of_deed
from support import (
    BARRED, FIVE, LEAST, LINKED, NO_INTEGERS, STEPS, TREFOIL, TWO_RINGS, as_bools, as_lists, changed_parts, grow_moves,
    is_tuple_throughout, of_other_length, some_grids,
)

SIX = ((0, 1, 2, 3, 4, 5), (1, 2, 3, 4, 5, 0))


def state(desk):
    """All that a desk tells of itself."""
    answers = [(question, desk.claim(question), desk.paper_for(question)) for question in desk.watched()]
    return (desk.grid().pair(), desk.watched(), answers, desk.done(), desk.paper())


def watching(pair, *questions):
    desk = Desk(Grid(*pair))
    for question in questions:
        desk.watch(question)
    return desk


class Deeds(unittest.TestCase):
    def test_each_kind(self):
        grid = Grid(*STEPS)
        for deed, due in (
            (("move", ("shrink column", 0)), moved(grid, ("shrink column", 0))),
            (("move", ("turn rows",)), moved(grid, ("turn rows",))),
            (("move", ("grow row", 3, 2, "down")), moved(grid, ("grow row", 3, 2, "down"))),
            (("mirror",), mirrored(grid)),
            (("about",), turned_about(grid)),
            (("put",) + TREFOIL, Grid(*TREFOIL)),
            (("put",) + LEAST, Grid(*LEAST)),
            (("put",) + STEPS, grid),
        ):
            desk = Desk(grid)
            self.assertEqual(desk.deed(deed), ())
            self.assertEqual(desk.grid(), due)
            self.assertIs(type(desk.grid()), Grid)
            self.assertEqual(desk.done(), (deed,))
        self.assertEqual(grid.pair(), STEPS)

    def test_all_deeds_one_after_another(self):
        desk = Desk(Grid(*STEPS))
        grid, done = Grid(*STEPS), ()
        for k in range(40):
            deeds = deeds_open(grid)
            deed = deeds[7 * k % len(deeds)]
            self.assertEqual(desk.deed(deed), ())
            grid, done = grid_of_deed(grid, deed), done + (deed,)
            self.assertEqual(desk.grid(), grid)
            self.assertEqual(desk.done(), done)

    def test_sizes_to_five(self):
        desk = Desk(Grid(*LEAST))
        for size in (3, 4, 5):
            desk.deed(("move", ("grow column", 0, 0, "up")))
            self.assertEqual(len(desk.grid()), size)
        before = state(desk)
        for move in grow_moves(5):
            self.refused(desk, ("move", move))
        self.refused(desk, ("put",) + SIX)
        self.refused(desk, ("put", tuple(range(9)), tuple(range(1, 9)) + (0,)))
        self.assertEqual(state(desk), before)

    def refused(self, desk, deed):
        before = state(desk)
        with self.assertRaises(InvalidDeed) as caught:
            desk.deed(deed)
        self.assertIs(caught.exception.value, deed)
        self.assertEqual(state(desk), before)

    def test_moves_that_cannot_be_done(self):
        desk = watching(STEPS, ("rings",), ("ring",))
        for move in (
            ("swap columns", 0), ("swap rows", 1), ("shrink column", 2), ("shrink row", 0), ("shrink column", 3),
            ("shrink column", -1), ("grow row", 4, 0, "up"), ("grow column", 0, 3, "up"), ("grow column", 0, 0, "left"),
        ):
            self.assertRaises(InvalidMove, moved, desk.grid(), move)
            self.refused(desk, ("move", move))

    def test_what_is_no_deed(self):
        desk = watching(STEPS, ("rings",))
        right = (("move", ("shrink column", 0)), ("mirror",), ("about",), ("put",) + LEAST)
        wrong = [None, True, False, 0, 1, "", "mirror", "about", (), [], desk, desk.grid(), (0,), (None,), ((),), ("undo",)]
        wrong += [("redo",), ("watch", ("rings",)), ("Mirror",), ("mirrored",), ("turn rows",), ("shrink column", 0)]
        wrong += [("move",), ("move", "turn rows"), ("move", "turn rows", "turn rows"), ("move", ("turn rows",), ()), ("put",)]
        wrong += [("move", (("turn rows",),)), ("mirror", ()), ("about", "about"), ("put", LEAST), ("put", LEAST[0])]
        wrong += [("put", (0, 1), (0, 1)), ("put", (), ()), ("put", (0,), (0,)), ("put", (0, 1), (1, 0, 2)), ("put", 2, 2)]
        wrong += [("put", "01", "10"), ("put", (0, 2), (2, 0)), ("put", (0, 0), (1, 1)), ("put",) + LEAST + ((),)]
        for deed in right:
            wrong += list(as_lists(deed)) + list(as_bools(deed)) + list(of_other_length(deed))
            wrong += [value for value in changed_parts(deed, BARRED + (-1, 7, "x", "", ())) if value not in right]
            wrong += [deed + (value,) for value in BARRED + (0, (), "x")]
        for deed in wrong:
            if not any(deed is one for one in right):
                with self.subTest(deed=deed):
                    self.refused(desk, deed)
        self.assertEqual(desk.done(), ())

    def test_later_changes_of_an_argument_have_no_effect(self):
        xs, ohs = list(STEPS[0]), list(STEPS[1])
        desk = Desk(Grid(xs, ohs))
        xs[0] = 7
        self.assertEqual(desk.grid().pair(), STEPS)
        desk.deed(("mirror",))
        done = desk.done()
        desk.deed(("about",))
        self.assertEqual(done, (("mirror",),))


class UndoAndRedo(unittest.TestCase):
    def test_there_and_back_and_on_again(self):
        desk, grids = Desk(Grid(*STEPS)), [Grid(*STEPS)]
        deeds = [("move", ("turn rows",)), ("mirror",), ("put",) + LINKED, ("about",), ("move", ("turn columns",))]
        for deed in deeds:
            desk.deed(deed)
            grids.append(desk.grid())
        for k in reversed(range(len(deeds))):
            self.assertEqual(desk.undo(), ())
            self.assertEqual(desk.grid(), grids[k])
            self.assertEqual(desk.done(), tuple(deeds[:k]))
        for k in range(len(deeds)):
            self.assertEqual(desk.redo(), ())
            self.assertEqual(desk.grid(), grids[k + 1])
            self.assertEqual(desk.done(), tuple(deeds[:k + 1]))
        self.assertIs(type(desk.done()), tuple)

    def nothing(self, ask, word, desk):
        before = state(desk)
        with self.assertRaises(NothingToUndo) as caught:
            ask()
        self.assertEqual(caught.exception.deed, word)
        self.assertEqual(state(desk), before)

    def test_nothing_to_undo_or_redo(self):
        desk = watching(STEPS, ("ring",))
        self.nothing(desk.undo, "undo", desk)
        self.nothing(desk.redo, "redo", desk)
        desk.deed(("mirror",))
        self.nothing(desk.redo, "redo", desk)
        desk.undo()
        self.nothing(desk.undo, "undo", desk)
        desk.redo()
        self.nothing(desk.redo, "redo", desk)
        desk.undo()
        self.nothing(desk.undo, "undo", desk)

    def test_behind_another_deed_nothing_is_done_again(self):
        desk = Desk(Grid(*STEPS))
        desk.deed(("mirror",))
        desk.deed(("about",))
        desk.undo()
        desk.deed(("move", ("turn rows",)))
        self.nothing(desk.redo, "redo", desk)
        self.assertEqual(desk.done(), (("mirror",), ("move", ("turn rows",))))
        desk.undo()
        desk.undo()
        desk.redo()
        self.assertEqual(desk.done(), (("mirror",),))
        desk.redo()
        self.assertEqual(desk.done(), (("mirror",), ("move", ("turn rows",))))

    def test_a_deed_that_raises_an_error_takes_none_away(self):
        desk = Desk(Grid(*STEPS))
        desk.deed(("mirror",))
        desk.deed(("about",))
        desk.undo()
        desk.undo()
        for wrong in (("put", (0, 1), (0, 1)), ("move", ("swap columns", 0)), ["mirror"], None, ("put",) + SIX):
            self.assertRaises(InvalidDeed, desk.deed, wrong)
        desk.redo()
        self.assertRaises(InvalidDeed, desk.deed, ("mirrored",))
        desk.redo()
        self.assertEqual(desk.done(), (("mirror",), ("about",)))

    def test_watching_and_leaving_are_no_deeds(self):
        desk = Desk(Grid(*STEPS))
        desk.watch(("rings",))
        self.nothing(desk.undo, "undo", desk)
        desk.deed(("mirror",))
        desk.undo()
        desk.watch(("ring",))
        desk.leave(("rings",))
        self.assertRaises(InvalidQuestion, desk.leave, ("rings",))
        self.assertRaises(InvalidQuestion, desk.watch, ("knotted",))
        row = desk.paper_for(("ring",))
        word = "kept" if claim_holds(mirrored(Grid(*STEPS)), ("ring",), row) else "renewed"
        self.assertEqual(desk.redo(), ((("ring",), word, ("ring",)),))
        self.assertEqual(desk.done(), (("mirror",),))


class Watching(unittest.TestCase):
    def test_answers_and_papers(self):
        for pair in (LEAST, STEPS, TREFOIL, LINKED, TWO_RINGS, FIVE):
            grid = Grid(*pair)
            desk = Desk(grid)
            for question in QUESTIONS:
                due = answer_of(grid, question)
                self.assertEqual(desk.watch(question), due)
                self.assertEqual(desk.claim(question), due)
                self.assertEqual(desk.paper_for(question), paper_of(grid, question))
                self.assertIs(claim_holds(grid, desk.claim(question), desk.paper_for(question)), True)
            self.assertEqual(desk.watched(), QUESTIONS)
            self.assertIs(type(desk.watched()), tuple)
            self.assertEqual(desk.grid(), grid)

    def test_twice_changes_nothing(self):
        desk = watching(TREFOIL, ("rings",), ("ring",), ("ways", 3))
        before = state(desk)
        for question in (("ring",), ("rings",), ("ways", 3), ("rings",)):
            self.assertEqual(desk.watch(question), answer_of(Grid(*TREFOIL), question))
            self.assertEqual(state(desk), before)

    def test_twice_behind_a_deed_tells_the_answer_of_now(self):
        desk = watching(TREFOIL, ("ring",))
        desk.deed(("put",) + LINKED)
        self.assertEqual(desk.watch(("ring",)), ("rings", 2))
        self.assertEqual(desk.watched(), (("ring",),))

    def test_left_and_watched_again_stands_last(self):
        desk = watching(STEPS, ("rings",), ("ring",), ("apart",))
        self.assertIs(desk.leave(("rings",)), None)
        self.assertEqual(desk.watched(), (("ring",), ("apart",)))
        self.assertEqual(desk.watch(("rings",)), ("rings", 1))
        self.assertEqual(desk.watched(), (("ring",), ("apart",), ("rings",)))
        for question in (("apart",), ("rings",), ("ring",)):
            self.assertIs(desk.leave(question), None)
        self.assertEqual(desk.watched(), ())
        self.assertEqual(desk.deed(("mirror",)), ())

    def test_what_is_not_watched(self):
        desk = watching(STEPS, ("rings",), ("ways", 1), ("colours", 2))
        before = state(desk)
        wrong = [("ring",), ("ways", 2), ("colours", 3), ("ways", True), ("colours", 2, 4), ["rings"], ["ways", 1], (), None]
        wrong += [True, 0, "rings", [], [["rings"]], desk, Grid(*STEPS), ("rings", 1), (("rings",),), ("knotted",), ([],)]
        wrong += [("ways", [1]), ("ways", None), ("ways", ()), (None,)]
        for question in wrong:
            for ask in (desk.leave, desk.claim, desk.paper_for):
                with self.assertRaises(InvalidQuestion) as caught:
                    ask(question)
                self.assertIs(caught.exception.value, question)
                self.assertEqual(state(desk), before)

    def test_what_is_no_question(self):
        desk = watching(STEPS, ("rings",))
        before = state(desk)
        wrong = [("knotted",), ("together",), ("ways", 4), ("ways", True), ("colours", 4), ("colours",), ["rings"], (), None]
        wrong += [True, 0, "rings", [], desk, ("rings", 1), (("rings",),), ("ways", [1]), ("twist",), (None,), ([],)]
        for question in wrong + list(NO_INTEGERS) + list(BARRED):
            with self.assertRaises(InvalidQuestion) as caught:
                desk.watch(question)
            self.assertIs(caught.exception.value, question)
            self.assertEqual(state(desk), before)


class Reports(unittest.TestCase):
    def test_kept_renewed_and_changed(self):
        desk = watching(STEPS, ("rings",), ("ring",), ("colours", 3))
        self.assertEqual(desk.paper_for(("ring",)), (("shrink column", 0),))
        # From the least grid the row of one shrink leads nowhere, and a basis of two columns is another one.
        self.assertEqual(
            desk.deed(("move", ("shrink column", 0))),
            ((("rings",), "kept", ("rings", 1)), (("ring",), "renewed", ("ring",)),
             (("colours", 3), "renewed", ("colours", 3, 3))),
        )
        self.assertEqual(desk.paper_for(("ring",)), ())
        # Of the linked rings there are as many colourings, but their basis has four columns.
        self.assertEqual(
            desk.deed(("put",) + LINKED),
            ((("rings",), "changed", ("rings", 2)), (("ring",), "changed", ("rings", 2)),
             (("colours", 3), "renewed", ("colours", 3, 3))),
        )
        self.assertEqual(
            desk.deed(("put",) + TWO_RINGS),
            ((("rings",), "kept", ("rings", 2)), (("ring",), "kept", ("rings", 2)),
             (("colours", 3), "changed", ("colours", 3, 9))),
        )
        self.assertEqual(
            desk.deed(("move", ("turn columns",))),
            ((("rings",), "kept", ("rings", 2)), (("ring",), "kept", ("rings", 2)),
             (("colours", 3), "renewed", ("colours", 3, 9))),
        )

    def test_an_elder_paper_that_holds_stays(self):
        desk = watching(LEAST, ("ring",))
        self.assertEqual(desk.paper_for(("ring",)), ())
        self.assertEqual(desk.deed(("move", ("turn rows",))), ((("ring",), "kept", ("ring",)),))
        self.assertEqual(desk.deed(("move", ("grow column", 0, 0, "up"))), ((("ring",), "renewed", ("ring",)),))
        elder = desk.paper_for(("ring",))
        self.assertEqual(desk.undo(), ((("ring",), "renewed", ("ring",)),))
        self.assertNotEqual(desk.paper_for(("ring",)), elder)
        self.assertEqual(desk.redo(), ((("ring",), "renewed", ("ring",)),))
        # The paper of the one grid shows the other one, too, though it is not the one that would be found.
        desk = watching(((0, 2, 1), (1, 0, 2)), ("ring",))
        row = desk.paper_for(("ring",))
        for pair in ((STEPS[1], STEPS[0]), STEPS, ((0, 2, 1), (2, 1, 0))):
            word = "kept" if claim_holds(Grid(*pair), ("ring",), row) else "renewed"
            self.assertEqual(desk.deed(("put",) + pair), ((("ring",), word, ("ring",)),))
            if word == "kept":
                self.assertEqual(desk.paper_for(("ring",)), row)
            row = desk.paper_for(("ring",))

    def test_a_paper_that_was_kept_may_be_another_one_than_would_be_found(self):
        met = False
        for grid in some_grids(4, 8):
            desk = Desk(grid)
            desk.watch(("ring",))
            for deed in deeds_open(grid):
                word = desk.deed(deed)[0][1]
                paper = desk.paper_for(("ring",))
                self.assertIs(claim_holds(desk.grid(), desk.claim(("ring",)), paper), True)
                met = met or (word == "kept" and paper != paper_of(desk.grid(), ("ring",)))
                desk.undo()
        self.assertTrue(met)

    def test_a_put_of_the_same_grid_keeps_all(self):
        for pair in (LEAST, STEPS, TREFOIL, LINKED, TWO_RINGS, FIVE):
            desk = watching(pair, *QUESTIONS)
            before = [(question, desk.claim(question), desk.paper_for(question)) for question in QUESTIONS]
            due = tuple((question, "kept", answer_of(Grid(*pair), question)) for question in QUESTIONS)
            self.assertEqual(desk.deed(("put",) + pair), due)
            self.assertEqual([(question, desk.claim(question), desk.paper_for(question)) for question in QUESTIONS], before)
            self.assertEqual(desk.done(), (("put",) + pair,))

    def test_for_a_move_no_word_is_changed(self):
        for pair in (STEPS, TWO_RINGS, LINKED, TREFOIL, FIVE):
            grid = Grid(*pair)
            for deed in deeds_open(grid):
                desk = watching(pair, *QUESTIONS)
                words = [word for _, word, _ in desk.deed(deed)]
                if deed[0] == "move":
                    self.assertNotIn("changed", words)
                self.assertEqual(len(words), len(QUESTIONS))

    def test_the_mirror_image_changes_only_what_tells_it(self):
        desk = watching(TREFOIL, ("ring",), ("alexander",), ("bracket",), ("rings",), ("ways", 3))
        words = {question: word for question, word, _ in desk.deed(("mirror",))}
        self.assertEqual(words[("bracket",)], "changed")
        self.assertEqual([words[("alexander",)], words[("rings",)], words[("ways", 3)]], ["kept"] * 3)
        self.assertIn(words[("ring",)], ("kept", "renewed"))
        words = {question: word for question, word, _ in desk.undo()}
        self.assertEqual(words[("bracket",)], "changed")

    def test_in_the_order_of_watching(self):
        desk = watching(STEPS, ("ways", 2), ("rings",), ("ring",))
        desk.leave(("ways", 2))
        desk.watch(("ways", 2))
        report = desk.deed(("about",))
        self.assertEqual([question for question, _, _ in report], [("rings",), ("ring",), ("ways", 2)])
        self.assertTrue(all(type(row) is tuple for row in report + (report,)))

    def test_reports_of_long_courses(self):
        for seed in range(12):
            first, steps = course(seed, 40, size=2 + seed % 4)
            desk, model = Desk(first), Model(first)
            words = set()
            for word, arguments in steps:
                told_now = getattr(desk, word)(*arguments)
                self.assertEqual(told_now, getattr(model, word)(*arguments))
                words.update(row[1] for row in told_now or () if word in ("deed", "undo", "redo"))
                self.assertEqual(desk.grid(), model.grid)
                self.assertEqual(desk.done(), model.done())
                self.assertEqual(desk.watched(), model.watched())
                for question, claim, paper in model.answers:
                    self.assertEqual(desk.claim(question), claim)
                    self.assertEqual(desk.paper_for(question), paper)
                    # What the desk tells is just what its grid asked anew tells.
                    self.assertEqual(claim, answer_of(model.grid, question))
            self.assertEqual(desk.paper(), "\n".join(model.lines))


class Histories(unittest.TestCase):
    def test_known_lines(self):
        desk = Desk(Grid(*STEPS))
        self.assertEqual(desk.paper(), "grid ((0,1,2),(1,2,0))")
        desk.watch(("rings",))
        desk.deed(("move", ("shrink column", 0)))
        desk.watch(("ring",))
        desk.leave(("rings",))
        desk.undo()
        desk.leave(("ring",))
        desk.redo()
        self.assertEqual(desk.paper().split("\n"), [
            "grid ((0,1,2),(1,2,0))",
            'watch ("rings",)',
            'claim ("rings",1)',
            "paper ()",
            'deed ("move",("shrink column",0))',
            'claim ("rings",1)',
            "paper ()",
            'watch ("ring",)',
            'claim ("ring",)',
            "paper ()",
            'leave ("rings",)',
            "undo",
            'claim ("ring",)',
            'paper (("shrink column",0),)',
            'leave ("ring",)',
            "redo",
        ])

    def test_what_raises_an_error_or_is_watched_already_leaves_no_line(self):
        desk = watching(STEPS, ("rings",))
        before = desk.paper()
        self.assertRaises(NothingToUndo, desk.undo)
        self.assertRaises(NothingToUndo, desk.redo)
        self.assertRaises(InvalidDeed, desk.deed, ("mirrored",))
        self.assertRaises(InvalidQuestion, desk.leave, ("ring",))
        self.assertRaises(InvalidQuestion, desk.watch, ("knotted",))
        desk.watch(("rings",))
        desk.claim(("rings",))
        desk.paper_for(("rings",))
        self.assertEqual(desk.paper(), before)
        self.assertEqual(desk.paper(), desk.paper())

    def test_the_values_of_its_lines(self):
        desk = watching(TREFOIL, *QUESTIONS)
        desk.deed(("mirror",))
        lines = desk.paper().split("\n")
        self.assertEqual(untold(lines[0][5:]), TREFOIL)
        self.assertEqual(lines[1 + 3 * len(QUESTIONS)], 'deed ("mirror",)')
        for k, question in enumerate(QUESTIONS):
            self.assertEqual(lines[1 + 3 * k], "watch " + told(question))
            for begin, grid in ((2 + 3 * k, Grid(*TREFOIL)), (2 + 3 * len(QUESTIONS) + 2 * k, desk.grid())):
                claim, paper = lines[begin], lines[begin + 1]
                self.assertEqual(claim, "claim " + told(answer_of(grid, question)))
                self.assertIs(claim_holds(grid, untold(claim[6:]), untold(paper[6:])), True)


class Objects(unittest.TestCase):
    def test_desks_are_not_iterable(self):
        desk = watching(STEPS, ("rings",))
        self.assertRaises(TypeError, iter, desk)
        self.assertRaises(TypeError, lambda: [*desk])

    def test_desks_do_not_share_what_they_keep(self):
        one, other = Desk(Grid(*STEPS)), Desk(Grid(*STEPS))
        one.watch(("rings",))
        one.deed(("mirror",))
        self.assertEqual(state(other), state(Desk(Grid(*STEPS))))

    def test_parameters_by_name(self):
        desk = Desk(grid=Grid(*STEPS))
        self.assertEqual(desk.watch(question=("rings",)), ("rings", 1))
        self.assertEqual(desk.claim(question=("rings",)), ("rings", 1))
        self.assertEqual(desk.paper_for(question=("rings",)), ())
        self.assertEqual(desk.deed(deed=("about",)), ((("rings",), "kept", ("rings", 1)),))
        self.assertIs(desk.leave(question=("rings",)), None)
        self.assertIs(same_state(other=desk, one=desk), True)

    def test_what_is_told_is_made_of_tuples(self):
        desk = watching(STEPS, ("colours", 3), ("linkings",))
        self.assertTrue(is_tuple_throughout(desk.paper_for(("colours", 3))))
        self.assertTrue(is_tuple_throughout(desk.claim(("linkings",))[1:]))

    def test_all_moves_open_can_be_done(self):
        for grid in some_grids(5, 5):
            for move in moves_open(grid):
                desk = Desk(grid)
                desk.deed(("move", move))
                self.assertEqual(desk.grid(), moved(grid, move))


class SameState(unittest.TestCase):
    def test_equal_and_unlike_parts(self):
        one, other = watching(STEPS, ("rings",), ("ring",)), watching(STEPS, ("rings",), ("ring",))
        self.assertIs(same_state(one, other), True)
        self.assertIs(same_state(one, one), True)
        for steps in (
            [("deed", ("about",))], [("watch", ("apart",))], [("leave", ("rings",))], [("deed", ("put",) + STEPS)],
            [("leave", ("rings",)), ("watch", ("rings",))], [("deed", ("mirror",)), ("deed", ("mirror",))],
        ):
            other = watching(STEPS, ("rings",), ("ring",))
            for word, argument in steps:
                getattr(other, word)(argument)
            self.assertIs(same_state(one, other), False)
            self.assertIs(same_state(other, one), False)

    def test_unlike_questions_with_one_answer(self):
        one, other = watching(STEPS, ("rings",)), watching(STEPS, ("apart",))
        self.assertEqual(one.claim(("rings",)), other.claim(("apart",)))
        self.assertIs(same_state(one, other), False)
        both, turned = watching(STEPS, ("rings",), ("apart",)), watching(STEPS, ("apart",), ("rings",))
        self.assertIs(same_state(both, turned), False)
        self.assertIs(same_state(one, both), False)

    def test_the_ways_to_a_state_do_not_count(self):
        one, other = watching(STEPS, ("ring",)), watching(STEPS, ("rings",), ("ring",))
        other.leave(("rings",))
        other.deed(("move", ("shrink column", 0)))
        other.undo()
        self.assertIs(same_state(one, other), True)
        self.assertNotEqual(one.paper(), other.paper())

    def test_papers_do_not_count(self):
        one, other = watching(LEAST, ("ring",)), watching(STEPS, ("ring",))
        one.deed(("put",) + STEPS)
        other.deed(("put",) + STEPS)
        self.assertIs(same_state(one, other), True)

    def test_grids_alone(self):
        self.assertIs(same_state(Desk(Grid(*STEPS)), Desk(Grid(*LEAST))), False)
        self.assertIs(same_state(Desk(Grid(*STEPS)), Desk(Grid(*STEPS))), True)


if __name__ == "__main__":
    unittest.main()
