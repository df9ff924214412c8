"""Powers of integers."""


def power(base, exponent):
    """The base to the power exponent, a number."""
    found = 1
    square = base
    left = exponent
    while left > 0:
        if left % 2 == 1:
            found = found * square
        square = square * square
        left = left // 2
    return found
