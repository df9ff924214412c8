"""What kind of value a value is."""


def is_integer(value):
    """Whether value is an integer; bools are none."""
    return isinstance(value, int) and not isinstance(value, bool)


def is_number(value):
    """Whether value is an integer from 0 on."""
    return is_integer(value) and value >= 0


def is_number_below(value, limit):
    """Whether value is a number less than limit."""
    return is_number(value) and value < limit


def is_sequence(value):
    """Whether value is a list or a tuple."""
    return isinstance(value, (list, tuple))


def is_tuple_of(value, size):
    """Whether value is a tuple of that many members."""
    return isinstance(value, tuple) and len(value) == size


def is_plain(value):
    """Whether value is made of tuples, integers and words alone, as claims and papers are."""
    if isinstance(value, tuple):
        return all([is_plain(part) for part in value])
    return isinstance(value, str) or is_integer(value)


def rises(members):
    """Whether each of the members is greater than the one ahead."""
    return all([members[k] < members[k + 1] for k in range(len(members) - 1)])
