"""The desk: a grid, the deeds that change it, and the questions that are watched on the way."""

from gridknot.claims import answer_of, claim_holds, is_question, paper_of
from gridknot.errors import InvalidDeed, InvalidQuestion, NothingToUndo
from gridknot.grids import Grid, makes_grid
from gridknot.kinds import is_tuple_of
from gridknot.making import mirrored, turned_about
from gridknot.moves import pair_moved
from gridknot.told import told

MOST_SIZE = 5


def is_desk_pair(value):
    """Whether the value is the pair of a grid that a desk may hold."""
    if not is_tuple_of(value, 2) or not isinstance(value[0], tuple) or not isinstance(value[1], tuple):
        return False
    return makes_grid(value[0], value[1]) and len(value[0]) <= MOST_SIZE


def grid_behind(grid, deed):
    """The grid that the deed, which may be any value, makes of the grid; None if it cannot be done."""
    if deed == ("mirror",):
        return mirrored(grid)
    if deed == ("about",):
        return turned_about(grid)
    pair = None
    if is_tuple_of(deed, 2) and deed[0] == "move":
        pair = pair_moved(grid.pair(), deed[1])
    elif is_tuple_of(deed, 3) and deed[0] == "put":
        pair = deed[1:]
    if not is_desk_pair(pair):
        return None
    return Grid(pair[0], pair[1])


def looked_at_anew(grid, question, claim, paper):
    """What has become of the answer: a word, the answer, and a paper of it, the elder one if that still holds."""
    answer = answer_of(grid, question)
    if answer == claim and claim_holds(grid, claim, paper):
        return ("kept", claim, paper)
    word = "renewed" if answer == claim else "changed"
    return (word, answer, paper_of(grid, question))


class Desk:
    """A grid that deeds change, with the history of all that was done, watched and left."""

    def __init__(self, grid):
        self.now = grid
        self.ahead = []
        self.deeds = []
        self.undone = []
        self.watches = {}
        self.lines = ["grid " + told(grid.pair())]

    def grid(self):
        """The grid as it is now."""
        return self.now

    def tell_answer(self, question):
        """Adds the lines of the answer to the question, and of its paper, to the history."""
        claim, paper = self.watches[question]
        self.lines.extend(["claim " + told(claim), "paper " + told(paper)])

    def report(self, line):
        """Looks at each watched question anew, adds the line and all answers to the history, and reports."""
        self.lines.append(line)
        found = []
        for question in list(self.watches):
            elder, elder_paper = self.watches[question]
            word, claim, paper = looked_at_anew(self.now, question, elder, elder_paper)
            self.watches[question] = (claim, paper)
            self.tell_answer(question)
            found.append((question, word, claim))
        return tuple(found)

    def go_on(self, deed, grid):
        """Puts in place the grid that the deed has made."""
        self.ahead.append(self.now)
        self.deeds.append(deed)
        self.now = grid

    def deed(self, deed):
        """Does the deed, and reports."""
        grid = grid_behind(self.now, deed)
        if grid is None:
            raise InvalidDeed(deed)
        self.go_on(deed, grid)
        self.undone = []
        return self.report("deed " + told(deed))

    def undo(self):
        """Undoes the last deed done, and reports."""
        if len(self.deeds) == 0:
            raise NothingToUndo("undo")
        self.undone.append((self.deeds.pop(), self.now))
        self.now = self.ahead.pop()
        return self.report("undo")

    def redo(self):
        """Does the deed again that was undone last, and reports."""
        if len(self.undone) == 0:
            raise NothingToUndo("redo")
        deed, grid = self.undone.pop()
        self.go_on(deed, grid)
        return self.report("redo")

    def done(self):
        """The deeds done and not undone, in order."""
        return tuple(self.deeds)

    def watch(self, question):
        """Watches the question, behind the others if it is new, and answers its claim."""
        if not is_question(question):
            raise InvalidQuestion(question)
        if question not in self.watches:
            self.watches[question] = (answer_of(self.now, question), paper_of(self.now, question))
            self.lines.append("watch " + told(question))
            self.tell_answer(question)
        return self.claim(question)

    def must_be_watched(self, question):
        """Tells the error if the value is no question that is watched."""
        if not is_question(question) or question not in self.watches:
            raise InvalidQuestion(question)

    def leave(self, question):
        """Watches the question no more."""
        self.must_be_watched(question)
        del self.watches[question]
        self.lines.append("leave " + told(question))

    def watched(self):
        """The watched questions in the order in which they were watched."""
        return tuple(self.watches)

    def claim(self, question):
        """The answer to the watched question."""
        self.must_be_watched(question)
        return self.watches[question][0]

    def paper_for(self, question):
        """The paper of the answer to the watched question."""
        self.must_be_watched(question)
        return self.watches[question][1]

    def hold_paper(self, question, paper):
        """Puts another paper that holds in the place of that of the watched question's answer."""
        self.watches[question] = (self.claim(question), paper)

    def paper(self):
        """The text of the desk's history."""
        return "\n".join(self.lines)


def claims_of(desk):
    """The answers to the watched questions in their order."""
    return [desk.claim(question) for question in desk.watched()]


def same_state(one, other):
    """Whether the two desks have equal grids, watched questions, claims and done deeds."""
    if one.grid() != other.grid() or one.watched() != other.watched():
        return False
    return claims_of(one) == claims_of(other) and one.done() == other.done()
