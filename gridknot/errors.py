"""The errors of the package; each keeps the arguments with which it is made."""


class KnotError(ValueError):
    """What all errors of the package stand under; never raised itself."""


class InvalidGrid(KnotError):
    """The value makes no grid."""

    def __init__(self, value):
        self.value = value


class InvalidText(KnotError):
    """The text tells nothing of the kind that is asked for; it is wrong at the place at."""

    def __init__(self, text, at):
        self.text = text
        self.at = at


class InvalidMove(KnotError):
    """The move is none, or it cannot be done."""

    def __init__(self, move):
        self.move = move


class InvalidNumber(KnotError):
    """The value is none of the numbers that are asked for."""

    def __init__(self, value):
        self.value = value


class InvalidClaim(KnotError):
    """The value is no claim."""

    def __init__(self, value):
        self.value = value


class InvalidQuestion(KnotError):
    """The value is no question, or it is not watched."""

    def __init__(self, value):
        self.value = value


class InvalidDeed(KnotError):
    """The value is no deed that can be done."""

    def __init__(self, value):
        self.value = value


class Undefined(KnotError):
    """There is no such thing; the word what tells which."""

    def __init__(self, what):
        self.what = what


class NothingToUndo(KnotError):
    """No deed can be undone, or done again; the word deed tells which of the two."""

    def __init__(self, deed):
        self.deed = deed
