"""What the tests of desks and histories need: a plain model of a desk, the deeds that can be done, and long courses."""

from random import Random

from gridknot.claims import answer_of, claim_holds, paper_of
from gridknot.errors import KnotError
from gridknot.grids import Grid
from gridknot.making import mirrored, turned_about
from gridknot.moves import moved, moves_open
from gridknot.told import told
from support import LEAST, LINKED, SMALL_PRIMES, TREFOIL, TWO_RINGS, grow_moves, some_grids

QUESTIONS = (
    (("ring",), ("apart",), ("rings",), ("linkings",), ("alexander",), ("bracket",))
    + tuple(("colours", p) for p in SMALL_PRIMES)
    + tuple(("ways", m) for m in (1, 2, 3))
)


def grid_of_deed(grid, deed):
    """The grid behind the deed, which is one in form, in the document's words; None if it cannot be done."""
    if deed == ("mirror",):
        return mirrored(grid)
    if deed == ("about",):
        return turned_about(grid)
    try:
        end = moved(grid, deed[1]) if deed[0] == "move" else Grid(*deed[1:])
    except KnotError:
        return None
    return end if len(end) <= 5 else None


def deeds_open(grid):
    """Deeds that can be done on the grid: all moves, and some others."""
    moves = moves_open(grid) + (tuple(grow_moves(len(grid))) if len(grid) < 5 else ())
    deeds = [("move", move) for move in moves] + [("mirror",), ("about",)]
    return deeds + [("put",) + pair for pair in (LEAST, LINKED, TWO_RINGS, TREFOIL, grid.pair())]


class Model:
    """A desk told in the document's words: the grids of all deeds, and each answer with its paper."""

    def __init__(self, grid):
        self.grids = [grid]
        self.deeds = []
        self.at = 0
        self.answers = []
        self.lines = ["grid " + told(grid.pair())]

    @property
    def grid(self):
        return self.grids[self.at]

    def look(self, line):
        self.lines.append(line)
        report, answers = [], []
        for question, claim, paper in self.answers:
            now = answer_of(self.grid, question)
            if now == claim and claim_holds(self.grid, claim, paper):
                word = "kept"
            else:
                word = "renewed" if now == claim else "changed"
                paper = paper_of(self.grid, question)
            report.append((question, word, now))
            answers.append((question, now, paper))
            self.lines += ["claim " + told(now), "paper " + told(paper)]
        self.answers = answers
        return tuple(report)

    def deed(self, deed):
        self.grids = self.grids[:self.at + 1] + [grid_of_deed(self.grid, deed)]
        self.deeds = self.deeds[:self.at] + [deed]
        self.at += 1
        return self.look("deed " + told(deed))

    def undo(self):
        self.at -= 1
        return self.look("undo")

    def redo(self):
        self.at += 1
        return self.look("redo")

    def watch(self, question):
        if question not in self.watched():
            self.answers.append((question, answer_of(self.grid, question), paper_of(self.grid, question)))
            _, claim, paper = self.answers[-1]
            self.lines += ["watch " + told(question), "claim " + told(claim), "paper " + told(paper)]
        return [claim for asked, claim, _ in self.answers if asked == question][0]

    def leave(self, question):
        self.answers = [row for row in self.answers if row[0] != question]
        self.lines.append("leave " + told(question))

    def watched(self):
        return tuple(question for question, _, _ in self.answers)

    def done(self):
        return tuple(self.deeds[:self.at])


def course(seed, many, size=4, questions=QUESTIONS):
    """A first grid, and so many steps (a method's word and its arguments) that a desk can be led through from it."""
    chooser = Random(seed)
    model = Model(some_grids(size, seed + 1)[-1])
    first, steps = model.grid, []
    while len(steps) < many:
        steps.append(next_step(chooser, model, questions))
        word, arguments = steps[-1]
        getattr(model, word)(*arguments)
    return first, steps


def next_step(chooser, model, questions):
    """Some step that can be done."""
    choice = chooser.randrange(10)
    if choice == 0 and model.watched():
        return ("leave", (chooser.choice(model.watched()),))
    if choice in (1, 2, 3):
        return ("watch", (chooser.choice(questions),))
    if choice in (4, 5) and model.at > 0:
        return ("undo", ())
    if choice in (5, 6, 7) and model.at < len(model.deeds):
        return ("redo", ())
    return ("deed", (chooser.choice(deeds_open(model.grid)),))
