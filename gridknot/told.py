"""The texts of values that are made of tuples, integers and words."""

from gridknot.errors import InvalidText

MOST_TUPLES = 30
MOST_FIGURES = 12


def told(value):
    """The text of the value."""
    if isinstance(value, tuple):
        parts = ",".join([told(part) for part in value])
        return f"({parts},)" if len(value) == 1 else f"({parts})"
    if isinstance(value, str):
        return f'"{value}"'
    return str(value)


def is_letter(sign):
    """Whether the character may stand in a word."""
    return "a" <= sign <= "z" or sign == " "


def word_at(text, at):
    """The word whose first quotation mark is at this place, and the place behind it."""
    end = text.find('"', at + 1)
    if end == -1 or end == at + 1:
        raise InvalidText(text, at)
    word = text[at + 1:end]
    if not all([is_letter(sign) for sign in word]):
        raise InvalidText(text, at)
    return (word, end + 1)


def integer_at(text, at):
    """The integer that begins at this place, and the place behind it."""
    first = at + 1 if text[at:at + 1] == "-" else at
    end = first
    while end < len(text) and text[end] in "0123456789":
        end = end + 1
    figures = text[first:end]
    if figures == "" or len(figures) > MOST_FIGURES:
        raise InvalidText(text, at)
    # The only integer that begins with a 0 is the 0 itself, which is not below 0.
    if figures[0] == "0" and text[at:end] != "0":
        raise InvalidText(text, at)
    return (int(text[at:end]), end)


def tuple_at(text, at, most):
    """The tuple that begins at this place, with most tuples within one another, and the place behind it."""
    if most == 0:
        raise InvalidText(text, at)
    end = at + 1
    if text[end:end + 1] == ")":
        return ((), end + 1)
    parts = []
    while True:
        part, end = value_at(text, end, most - 1)
        parts.append(part)
        if text[end:end + 1] == ")" and len(parts) > 1:
            return (tuple(parts), end + 1)
        if text[end:end + 2] == ",)" and len(parts) == 1:
            return (tuple(parts), end + 2)
        if text[end:end + 1] != ",":
            raise InvalidText(text, end)
        end = end + 1


def value_at(text, at, most):
    """The value that begins at this place, with most tuples within one another, and the place behind it."""
    sign = text[at:at + 1]
    if sign == "(":
        return tuple_at(text, at, most)
    if sign == '"':
        return word_at(text, at)
    return integer_at(text, at)


def untold(text):
    """The value whose text this is."""
    value, end = value_at(text, 0, MOST_TUPLES)
    if end < len(text):
        raise InvalidText(text, end)
    return value
