"""[32]: histories of desks as texts: whether they hold, where they are wrong, their ends, and desks relived from them."""

import unittest

from gridknot.claims import answer_of, claim_holds, is_question, paper_of
from gridknot.desk import Desk, same_state
from gridknot.errors import InvalidText, KnotError, NothingToUndo
from gridknot.families import family
from gridknot.grids import Grid
from gridknot.histories import paper_end, paper_holds, relived
from gridknot.told import told, untold
from leading import QUESTIONS, course, deeds_open, grid_of_deed
from support import FIVE, LEAST, LINKED, STEPS, TREFOIL, TWO_RINGS

SMALL = (("ring",), ("apart",), ("rings",), ("colours", 3))


def value_of(line, word):
    """The value behind the word, as a tuple of it alone; () if the line is none of these."""
    try:
        return (untold(line[len(word) + 1:]),) if line.startswith(word + " ") else ()
    except InvalidText:
        return ()


def is_deed(value):
    if not isinstance(value, tuple) or not value:
        return False
    lengths = {"move": 2, "mirror": 1, "about": 1, "put": 3}
    return isinstance(value[0], str) and lengths.get(value[0]) == len(value)


class Reference:
    """Reads a history line by line in the document's words; wrong tells the number of the first wrong line."""

    def __init__(self, text):
        self.lines = text.split("\n")
        self.grid, self.past, self.future, self.watched = None, [], [], []
        self.wrong, self.due = None, []
        for number, line in enumerate(self.lines):
            if not self.take(number, line):
                self.wrong = number
                return
        self.wrong = len(self.lines) if self.due else None

    def take(self, number, line):
        if number == 0:
            return self.take_grid(line)
        if self.due:
            return self.take_answer(line, *self.due.pop(0))
        for word in ("watch", "leave", "deed"):
            if line.startswith(word + " "):
                return bool(value_of(line, word)) and getattr(self, "take_" + word)(value_of(line, word)[0])
        if line == "undo" and self.past:
            grid, deed = self.past.pop()
            self.future.append((self.grid, deed))
            self.grid = grid
        elif line == "redo" and self.future:
            grid, deed = self.future.pop()
            self.past.append((self.grid, deed))
            self.grid = grid
        else:
            return False
        self.due = [(question, word) for question in self.watched for word in ("claim", "paper")]
        return True

    def take_grid(self, line):
        try:
            (pair,) = value_of(line, "grid")
            xs, ohs = pair
            self.grid = Grid(xs, ohs)
        except (KnotError, TypeError, ValueError):
            return False
        return len(self.grid) <= 5

    def take_answer(self, line, question, word):
        value = value_of(line, word)
        answer = answer_of(self.grid, question)
        if not value:
            return False
        return value[0] == answer if word == "claim" else claim_holds(self.grid, answer, value[0])

    def take_watch(self, question):
        if not is_question(question) or question in self.watched:
            return False
        self.watched.append(question)
        self.due = [(question, "claim"), (question, "paper")]
        return True

    def take_leave(self, question):
        if question not in self.watched:
            return False
        self.watched.remove(question)
        return True

    def take_deed(self, deed):
        grid = grid_of_deed(self.grid, deed) if is_deed(deed) else None
        if grid is None:
            return False
        self.past.append((self.grid, deed))
        self.future, self.grid = [], grid
        self.due = [(question, word) for question in self.watched for word in ("claim", "paper")]
        return True

    def at(self):
        """The place at which the first wrong line begins, or that behind the text."""
        if self.wrong == len(self.lines):
            return len("\n".join(self.lines))
        return sum(len(line) + 1 for line in self.lines[:self.wrong])


def led_desk(first, steps):
    desk = Desk(first)
    for word, arguments in steps:
        getattr(desk, word)(*arguments)
    return desk


def some_desks():
    """Desks that were led through courses of several kinds."""
    desks = [Desk(Grid(*LEAST)), Desk(Grid(*FIVE))]
    desks += [led_desk(*course(seed, 12, size=2 + seed % 4, questions=SMALL)) for seed in range(8)]
    return desks + [led_desk(*course(seed, 30, size=5)) for seed in (20, 21)]


class Checks(unittest.TestCase):
    def check(self, text):
        """Compares what is told of the text with the reference, and tells whether it holds."""
        due = Reference(text)
        if due.wrong is not None:
            self.assertIs(paper_holds(text), False)
            for ask in (paper_end, relived):
                with self.assertRaises(InvalidText) as caught:
                    ask(text)
                self.assertIs(caught.exception.text, text)
                self.assertEqual(caught.exception.at, due.at())
                self.assertIs(type(caught.exception.at), int)
            return False
        self.assertIs(paper_holds(text), True)
        self.assertEqual(paper_end(text), (due.grid, tuple(due.watched)))
        desk = relived(text)
        self.assertEqual(desk.paper(), text)
        self.assertEqual(desk.grid(), due.grid)
        self.assertEqual(desk.watched(), tuple(due.watched))
        self.assertEqual(desk.done(), tuple(deed for _, deed in due.past))
        return True


class Right(Checks):
    def test_the_paper_of_every_desk_holds(self):
        for desk in some_desks():
            self.assertIs(self.check(desk.paper()), True)
            self.assertIs(same_state(relived(desk.paper()), desk), True)

    def test_a_relived_desk_goes_on_as_the_first_one(self):
        for desk in some_desks():
            again = relived(desk.paper())
            for question in desk.watched():
                self.assertEqual(again.claim(question), desk.claim(question))
                self.assertEqual(again.paper_for(question), desk.paper_for(question))
            for _ in range(3):
                for word in ("undo", "undo", "redo"):
                    self.assertEqual(self.step(again, word), self.step(desk, word))
                    self.assertEqual(again.paper(), desk.paper())
            deed = deeds_open(desk.grid())[-3]
            self.assertEqual(again.deed(deed), desk.deed(deed))
            self.assertEqual(self.step(again, "redo"), "redo")
            self.assertEqual(again.watch(("ways", 2)), desk.watch(("ways", 2)))
            self.assertEqual(again.paper(), desk.paper())
            self.assertIs(same_state(again, desk), True)

    def step(self, desk, word):
        try:
            return getattr(desk, word)()
        except NothingToUndo as error:
            return error.deed

    def test_long_histories(self):
        for seed in (31, 32):
            first, steps = course(seed, 110, size=4)
            deeds = [word for word, _ in steps].count("deed")
            self.assertGreater(deeds, 20)
            desk = led_desk(first, steps)
            self.assertIs(self.check(desk.paper()), True)
            self.assertIs(same_state(relived(desk.paper()), desk), True)

    def test_sixty_deeds_with_every_question(self):
        desk = Desk(Grid(*TREFOIL))
        for question in QUESTIONS:
            desk.watch(question)
        for k in range(60):
            deeds = deeds_open(desk.grid())
            desk.deed(deeds[11 * k % len(deeds)])
        text = desk.paper()
        self.assertIs(paper_holds(text), True)
        self.assertIs(same_state(relived(text), desk), True)

    def test_known_texts(self):
        for text in (
            "grid ((0,1),(1,0))",
            'grid ((0,1),(1,0))\ndeed ("about",)\nundo',
            'grid ((0,1),(1,0))\ndeed ("about",)\nundo\nredo\nundo\ndeed ("mirror",)',
            'grid ((0,1),(1,0))\nwatch ("rings",)\nclaim ("rings",1)\npaper ()',
            'grid ((0,1),(1,0))\nwatch ("rings",)\nclaim ("rings",1)\npaper ()\nleave ("rings",)\nwatch ("rings",)\n'
            'claim ("rings",1)\npaper ()',
            'grid ((0,1,2),(1,2,0))\nwatch ("ring",)\nclaim ("ring",)\npaper (("shrink row",2),)',
        ):
            self.assertIs(self.check(text), True)

    def test_other_papers_that_hold(self):
        # A desk would have told the empty row here, and kept it behind the turn.
        row = '(("grow column",0,0,"up"),("shrink row",1))'
        text = 'grid ((0,1),(1,0))\nwatch ("ring",)\nclaim ("ring",)\npaper ' + row
        self.assertIs(self.check(text), True)
        self.assertEqual(relived(text).paper_for(("ring",)), untold(row))
        self.assertIs(self.check(text + '\ndeed ("about",)\nclaim ("ring",)\npaper ()'), True)
        self.assertIs(self.check(text + '\ndeed ("about",)\nclaim ("ring",)\npaper (("turn rows",),)'), True)
        trefoil = "grid " + told(TREFOIL) + '\nwatch ("ring",)\nclaim ("knotted",)\npaper '
        for paper in (("family", family(Grid(*TREFOIL))), ("alexander", ((0, 1), (1, -1), (2, 1)))):
            self.assertIs(self.check(trefoil + told(paper)), True)
            self.assertEqual(relived(trefoil + told(paper)).paper_for(("ring",)), paper)
            both = trefoil + told(paper) + '\ndeed ("move",("turn rows",))\nclaim ("knotted",)\npaper '
            self.assertIs(self.check(both + told(("colours", 3, (0, 1, 2, 0, 1)))), claim_holds(
                Grid((4, 0, 1, 2, 3), (1, 2, 3, 4, 0)), ("knotted",), ("colours", 3, (0, 1, 2, 0, 1))))
            self.assertIs(self.check(both + told(paper)), True)

    def test_of_a_told_paper_that_holds_the_relived_desk_says_kept(self):
        row = (("grow column", 0, 0, "up"), ("shrink column", 0), ("turn rows",))
        text = 'grid ((0,1),(1,0))\nwatch ("ring",)\nclaim ("ring",)\npaper ' + told(row)
        desk = relived(text)
        self.assertEqual(desk.deed(("about",)), ((("ring",), "kept", ("ring",)),))
        self.assertEqual(desk.paper_for(("ring",)), row)
        self.assertEqual(desk.paper(), text + '\ndeed ("about",)\nclaim ("ring",)\npaper ' + told(row))

    def test_families_and_linked_pairs_as_papers(self):
        linked = "grid " + told(LINKED) + '\nwatch ("apart",)\nclaim ("together",)\npaper '
        for paper in (("linked", ((0, 1), (0, 1))), ("family", (LINKED,))):
            self.assertIs(self.check(linked + told(paper)), True)
        for paper in (("linked", ()), ("family", ()), ("family", (TWO_RINGS,)), ((), 2), ()):
            self.assertIs(self.check(linked + told(paper)), False)


class Wrong(Checks):
    def texts(self):
        return [desk.paper() for desk in some_desks()[:10]]

    def test_a_line_left_out_twice_or_exchanged(self):
        held = 0
        for text in self.texts():
            lines = text.split("\n")
            for k in range(len(lines)):
                held += self.check("\n".join(lines[:k] + lines[k + 1:]))
                held += self.check("\n".join(lines[:k] + lines[k:k + 1] + lines[k:]))
                held += self.check("\n".join(lines[:k] + lines[k:k + 2][::-1] + lines[k + 2:]))
        # Some of them are histories of other desks.
        self.assertGreater(held, 0)

    def test_cut_off_behind_each_line(self):
        for text in self.texts():
            lines = text.split("\n")
            for k in range(len(lines)):
                self.check("\n".join(lines[:k]))
                self.check("\n".join(lines[k:]))

    def test_cut_off_anywhere(self):
        for text in self.texts()[2:6]:
            for k in range(0, len(text), 3):
                self.check(text[:k])

    def test_an_empty_line(self):
        for text in self.texts():
            lines = text.split("\n")
            for k in range(len(lines) + 1):
                wrong = "\n".join(lines[:k] + [""] + lines[k:])
                self.assertIs(self.check(wrong), False)
                with self.assertRaises(InvalidText) as caught:
                    paper_end(wrong)
                self.assertEqual(caught.exception.at, len("\n".join(lines[:k] + [""])))
        for text in ("", "\n", "\n\n", "grid ((0,1),(1,0))\n"):
            self.assertIs(self.check(text), False)

    def test_a_line_more(self):
        lines = [
            "undo", "redo", 'leave ("rings",)', 'watch ("rings",)', 'watch ("knotted",)', 'deed ("mirror",)', "claim ()",
            'deed ("move",("swap columns",0))', "paper ()", 'claim ("rings",1)', "grid ((0,1),(1,0))", "x", " ", "undo ",
            "deed", "deed ", 'deed  ("mirror",)', 'deed ("mirror",) ', 'Deed ("mirror",)', "undo()", 'undo ("mirror",)',
            'watch ("colours",4)', 'watch ["rings"]', 'deed ("put",(0,1),(0,1))', 'deed ("undo",)', "watch 0", 'leave "rings"',
            'deed ("put",(0,1,2,3,4,5),(1,2,3,4,5,0))', 'deed ("put",(0,1),(1,0))', "deed 5", "deed ()", "watch ()", "leave ()",
        ]
        for text in self.texts():
            parts = text.split("\n")
            for line in lines:
                for k in sorted({0, 1, len(parts) // 2, len(parts)}):
                    self.check("\n".join(parts[:k] + [line] + parts[k:]))

    def test_one_character_changed(self):
        for text in self.texts()[2:5]:
            for k in range(0, len(text), 7):
                for sign in '1-),"a \n':
                    if sign != text[k]:
                        self.check(text[:k] + sign + text[k + 1:])

    def test_claims_and_papers_of_others(self):
        text = led_desk(*course(3, 14, size=4, questions=SMALL)).paper()
        lines = text.split("\n")
        claims = sorted({line for line in lines if line.startswith("claim")}) + ['claim ("rings",7)', "claim 0"]
        papers = sorted({line for line in lines if line.startswith("paper")}) + ["paper 0", 'paper ("x",)', "paper ()"]
        for k, line in enumerate(lines):
            for other in claims if line.startswith("claim") else papers if line.startswith("paper") else []:
                self.check("\n".join(lines[:k] + [other] + lines[k + 1:]))

    def test_first_lines(self):
        for line in (
            "grid", "grid ", "grid ()", "grid 0", 'grid "x"', "grid ((0,1),)", "grid ((0,1),(0,1))", "grid ((0,1),(1,0),())",
            "grid ((0,1),(1,0)) ", "grid  ((0,1),(1,0))", "Grid ((0,1),(1,0))", "((0,1),(1,0))", "grid ((0,1), (1,0))",
            "grid ((0,1,2,3,4,5),(1,2,3,4,5,0))", "grid ((),())", "grid ((0,),(0,))", "grid (0,1)", "undo", "redo",
            'watch ("rings",)', 'deed ("mirror",)', 'grid ("ab","ba")', "grid ((0,1),(1,2))", "grid ((0,1),(1,-0))",
        ):
            for rest in ("", '\ndeed ("mirror",)', "\n", "\nx"):
                self.assertIs(self.check(line + rest), False)
                with self.assertRaises(InvalidText) as caught:
                    relived(line + rest)
                self.assertEqual(caught.exception.at, 0)

    def test_greater_grids(self):
        six = "((0,1,2,3,4,5),(1,2,3,4,5,0))"
        self.assertIs(self.check("grid " + six), False)
        self.assertIs(self.check('grid ((0,1,2,3,4),(1,2,3,4,0))\ndeed ("move",("grow row",0,0,"up"))'), False)
        self.assertIs(self.check('grid ((0,1,2,3),(1,2,3,0))\ndeed ("move",("grow row",0,0,"up"))'), True)
        self.assertIs(self.check('grid ((0,1),(1,0))\ndeed ("put",' + six[1:-1] + ")"), False)

    def test_the_place_behind_the_text_where_lines_lack(self):
        text = 'grid ((0,1),(1,0))\nwatch ("rings",)\nclaim ("rings",1)\npaper ()\ndeed ("mirror",)\nclaim ("rings",1)\npaper ()'
        lines = text.split("\n")
        for k in (2, 3, 5, 6):
            short = "\n".join(lines[:k])
            with self.assertRaises(InvalidText) as caught:
                paper_end(short)
            self.assertEqual(caught.exception.at, len(short))
            self.assertIs(self.check(short), False)
        for k in (1, 4, 7):
            self.assertIs(self.check("\n".join(lines[:k])), True)

    def test_known_places(self):
        for text, due in (
            ("grid ((0,1),(1,0))\nundo", 19),
            ("grid ((0,1),(1,0))\nredo\nundo", 19),
            ('grid ((0,1),(1,0))\ndeed ("about",)\nundo\nundo', 40),
            ('grid ((0,1),(1,0))\nwatch ("rings",)\nclaim ("rings",2)\npaper ()', 36),
            ('grid ((0,1),(1,0))\nwatch ("rings",)\nclaim ("rings",1)\npaper 0', 54),
            ('grid ((0,1),(1,0))\nwatch ("rings",)\nclaim ("rings",1)\npaper ()\nwatch ("rings",)', 63),
            ('grid ((0,1),(1,0))\nwatch ("rings",)\nundo', 36),
            ("x", 0),
            ("", 0),
        ):
            with self.assertRaises(InvalidText) as caught:
                paper_end(text)
            self.assertEqual([caught.exception.text, caught.exception.at], [text, due])
            self.assertIs(self.check(text), False)

    def test_other_ends_of_lines(self):
        text = 'grid ((0,1),(1,0))\ndeed ("about",)\nundo'
        for sign in ("\r\n", "\r", "\x0b", "\x0c", "\x1c", "\x85", "\u2028", " \n", "\n "):
            self.assertIs(self.check(text.replace("\n", sign)), False)

    def test_long_texts(self):
        self.assertIs(paper_holds("x" * 2000000), False)
        self.assertIs(paper_holds("\n" * 2000000), False)
        self.assertIs(paper_holds("grid " + "(" * 1999995), False)
        text = 'grid ((0,1),(1,0))\ndeed ("about",)' + "\nundo\nredo" * 2000
        self.assertIs(paper_holds(text), True)
        self.assertIs(paper_holds(text + "\nredo"), False)


class Basics(unittest.TestCase):
    def test_parameters_by_name_and_again(self):
        text = 'grid ((0,1,2),(1,2,0))\nwatch ("rings",)\nclaim ("rings",1)\npaper ()\ndeed ("mirror",)\nclaim ("rings",1)\npaper ()'
        for _ in range(2):
            self.assertIs(paper_holds(text=text), True)
            self.assertEqual(paper_end(text=text), (Grid((2, 1, 0), (0, 2, 1)), (("rings",),)))
            self.assertEqual(relived(text=text).paper(), text)
        self.assertIs(type(paper_end(text)), tuple)
        self.assertIs(type(relived(text)), Desk)

    def test_relived_desks_do_not_share_what_they_keep(self):
        text = 'grid ((0,1,2),(1,2,0))\ndeed ("mirror",)'
        one, other = relived(text), relived(text)
        one.deed(("about",))
        one.watch(("rings",))
        self.assertEqual(other.paper(), text)
        self.assertEqual(other.done(), (("mirror",),))

    def test_what_stands_in_a_history_that_holds_is_true(self):
        for seed in (40, 41):
            text = led_desk(*course(seed, 25, size=4)).paper()
            for claim in [untold(line[6:]) for line in text.split("\n") if line.startswith("claim")]:
                self.assertIsInstance(claim, tuple)
            desk = relived(text)
            for question in desk.watched():
                self.assertEqual(desk.claim(question), answer_of(desk.grid(), question))
                self.assertIs(claim_holds(desk.grid(), desk.claim(question), desk.paper_for(question)), True)

    def test_steps_and_papers_of_small_grids(self):
        desk = Desk(Grid(*STEPS))
        desk.watch(("ring",))
        self.assertEqual(desk.paper_for(("ring",)), paper_of(Grid(*STEPS), ("ring",)))
        self.assertIs(paper_holds(desk.paper()), True)


if __name__ == "__main__":
    unittest.main()
