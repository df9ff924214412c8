"""The histories of desks as texts: whether one holds, what stands at its end, and a desk led through it."""

from gridknot.claims import claim_holds
from gridknot.desk import Desk, is_desk_pair
from gridknot.errors import InvalidDeed, InvalidQuestion, InvalidText, NothingToUndo
from gridknot.grids import Grid
from gridknot.told import told, untold


def value_behind(word, line):
    """The value that the line tells behind the word; None if it is no such line."""
    if not line.startswith(word + " "):
        return None
    try:
        return untold(line[len(word) + 1:])
    except InvalidText:
        return None


def desk_of(line):
    """The desk whose history begins with the line; None if none does."""
    pair = value_behind("grid", line)
    if not is_desk_pair(pair):
        return None
    return Desk(Grid(pair[0], pair[1]))


def go_by_watch(desk, question):
    """Lets the desk watch the question, which may be any value; the questions that are answered behind that."""
    if question in desk.watched():
        raise InvalidQuestion(question)
    desk.watch(question)
    return (question,)


def go_by_leave(desk, question):
    """Lets the desk leave the question, which may be any value; the questions that are answered behind that: none."""
    desk.leave(question)
    return ()


def go_by_deed(desk, line):
    """Leads the desk through the deed, undo or redo of the line; the questions that are answered behind it: all."""
    if line == "undo":
        desk.undo()
    elif line == "redo":
        desk.redo()
    else:
        desk.deed(value_behind("deed", line))
    return desk.watched()


def go_through(desk, line):
    """Leads the desk through the line; the questions that are answered behind it, None if the line is wrong."""
    try:
        if line.startswith("watch "):
            return go_by_watch(desk, value_behind("watch", line))
        if line.startswith("leave "):
            return go_by_leave(desk, value_behind("leave", line))
        return go_by_deed(desk, line)
    except (InvalidDeed, InvalidQuestion, NothingToUndo):
        return None


def takes_answer(desk, word, question, line):
    """Whether the line tells the claim, or a paper of it, that answers the question; the desk then holds that paper."""
    if word == "claim":
        return line == "claim " + told(desk.claim(question))
    paper = value_behind("paper", line)
    if not claim_holds(desk.grid(), desk.claim(question), paper):
        return False
    desk.hold_paper(question, paper)
    return True


def wrong_line(desk, lines):
    """Leads the desk through the lines behind the first one, and tells the number of the first line that is wrong.

    It is that behind the last one if none is wrong but some are lacking, and None if all is right.
    """
    due = []
    for number in range(1, len(lines)):
        if due:
            word, question = due.pop(0)
            if not takes_answer(desk, word, question, lines[number]):
                return number
        else:
            answered = go_through(desk, lines[number])
            if answered is None:
                return number
            due = [(kind, asked) for asked in answered for kind in ("claim", "paper")]
    return len(lines) if due else None


def place_of_line(lines, number):
    """The place at which the line of that number begins; that behind the last line if there is none."""
    ahead = "\n".join(lines[:number])
    return len(ahead) + 1 if 0 < number < len(lines) else len(ahead)


def relived(text):
    """The desk that was led through the history of the text."""
    lines = text.split("\n")
    desk = desk_of(lines[0])
    wrong = 0 if desk is None else wrong_line(desk, lines)
    if wrong is not None:
        raise InvalidText(text, place_of_line(lines, wrong))
    # The desk has told papers of its own choice on the way.
    desk.lines = lines
    return desk


def paper_end(text):
    """The grid and the watched questions at the end of the history."""
    desk = relived(text)
    return (desk.grid(), desk.watched())


def paper_holds(text):
    """Whether the text is the history of some desk."""
    try:
        relived(text)
    except InvalidText:
        return False
    return True
