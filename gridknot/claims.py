"""Questions about a grid, the claims that answer them, their papers, and what is said against an untrue claim."""

from gridknot.apart import apart_claim, apart_holds, apart_paper
from gridknot.colours import colours_holds, colours_paper
from gridknot.errors import InvalidClaim, InvalidQuestion
from gridknot.kept import asks_for_kept, kept_of
from gridknot.kinds import is_integer, is_number, is_plain, is_tuple_of
from gridknot.plain import ring_claim, ring_holds, ring_paper
from gridknot.series import is_series
from gridknot.strands import rings

# The claims of one word, each with the question that it may answer.
QUESTIONS = {
    "ring": ("ring",),
    "knotted": ("ring",),
    "apart": ("apart",),
    "together": ("apart",),
}


def is_question(value):
    """Whether the value is a question."""
    return asks_for_kept(value) or (is_tuple_of(value, 1) and value[0] in ("ring", "apart"))


def must_be_question(question):
    """Tells the error if the value is no question."""
    if not is_question(question):
        raise InvalidQuestion(question)


def answer_of(grid, question):
    """The one claim that answers the question and is true of the grid."""
    must_be_question(question)
    many = len(rings(grid))
    if question == ("ring",):
        return ring_claim(grid) if many == 1 else ("rings", many)
    if question == ("apart",):
        return apart_claim(grid) if many > 1 else ("rings", many)
    return question + (kept_of(grid, question),)


def paper_of(grid, question):
    """A paper of the answer to the question."""
    must_be_question(question)
    many = len(rings(grid))
    if question == ("ring",) and many == 1:
        return ring_paper(grid)
    if question == ("apart",) and many > 1:
        return apart_paper(grid)
    if question[0] == "colours":
        return colours_paper(grid, question[1])
    return ()


def is_row(value):
    """Whether the value is a tuple of integers, none less than the one ahead."""
    if not isinstance(value, tuple) or not all([is_integer(member) for member in value]):
        return False
    return all([value[k] <= value[k + 1] for k in range(len(value) - 1)])


def may_answer(question, value):
    """Whether the value has the form of an answer to the question, one for something that stays."""
    if question[0] == "linkings":
        return is_row(value)
    if question[0] == "alexander" or question[0] == "bracket":
        return is_series(value)
    return is_number(value)


def is_claim(value):
    """Whether the value is a claim that may answer a question."""
    if not isinstance(value, tuple) or len(value) == 0:
        return False
    if len(value) == 1:
        return isinstance(value[0], str) and value[0] in QUESTIONS
    return asks_for_kept(value[:-1]) and may_answer(value[:-1], value[-1])


def claim_holds(grid, claim, paper):
    """Whether the value claim is a claim and the value paper one of its papers."""
    if not is_claim(claim) or not is_plain(paper):
        return False
    word = claim[0]
    if word == "ring" or word == "knotted":
        return ring_holds(grid, claim, paper)
    if word == "apart" or word == "together":
        return apart_holds(grid, claim, paper)
    if word == "colours":
        return colours_holds(grid, claim, paper)
    return paper == () and answer_of(grid, claim[:-1]) == claim


def refute(grid, claim):
    """None if the claim is true; otherwise the answer to the question of its kind, and a paper of that."""
    if not is_claim(claim):
        raise InvalidClaim(claim)
    question = QUESTIONS[claim[0]] if len(claim) == 1 else claim[:-1]
    answer = answer_of(grid, question)
    if answer == claim:
        return None
    return (answer, paper_of(grid, question))
