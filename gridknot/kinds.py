"""What kind of value a value is."""


def is_number(value):
    """Whether value is an integer from 0 on; bools are no numbers."""
    return isinstance(value, int) and not isinstance(value, bool) and value >= 0


def is_number_below(value, limit):
    """Whether value is a number less than limit."""
    return is_number(value) and value < limit


def is_sequence(value):
    """Whether value is a list or a tuple."""
    return isinstance(value, (list, tuple))
