"""Alexander's polynomial of the link of a grid."""

from gridknot.series import series_of, series_plus, series_times
from gridknot.strands import courses, sign_of

ONE = ((0, 1),)


def line(grid, r, course):
    """The series of row r, one for each column."""
    a, crossed, b = course
    found = [()] * len(grid)
    found[a] = ONE
    for c in crossed:
        s = sign_of(grid, c, r)
        found = [series_times(told, ((s, 1),)) for told in found]
        found[c] = series_plus(found[c], series_plus(ONE, ((s, -1),)))
    found[b] = series_plus(found[b], ((0, -1),))
    return found


def lifted(row):
    """The row of series times the least power of t by which no exponent is below 0."""
    least = min([told[0][0] for told in row if told], default=0)
    return [series_times(told, ((max(-least, 0), 1),)) for told in row]


def bits_enough(matrix):
    """A number of bits that holds each coefficient of the determinant, and its sign."""
    bound = 1
    for row in matrix:
        bound = bound * max(sum([abs(coefficient) for told in row for _, coefficient in told]), 1)
    return bound.bit_length() + 1


def at_power_of_two(told, bits):
    """The value of the series, without exponents below 0, at 2 to the power bits."""
    return sum([coefficient << (bits * exponent) for exponent, coefficient in told])


def read_digits(value, bits):
    """The series with that value at 2 to the power bits whose coefficients have at most bits bits, their sign told."""
    sums = {}
    exponent = 0
    left = value
    while left != 0:
        digit = left & ((1 << bits) - 1)
        if digit >> (bits - 1) == 1:
            digit = digit - (1 << bits)
        sums[exponent] = digit
        left = (left - digit) >> bits
        exponent = exponent + 1
    return series_of(sums)


def determinant(matrix):
    """The determinant of a square matrix of integers, but for its sign."""
    rows = [list(row) for row in matrix]
    divisor = 1
    while len(rows) > 1:
        first = next_pivot(rows)
        if first is None:
            return 0
        pivot = rows.pop(first)
        # Each division is exact (Bareiss), so that the numbers stay as small as minors of the matrix are.
        rows = [
            [(row[k] * pivot[0] - row[0] * pivot[k]) // divisor for k in range(1, len(row))]
            for row in rows
        ]
        divisor = pivot[0]
    return rows[0][0]


def next_pivot(rows):
    """The number of the first row that does not begin with 0; None if there is none."""
    for k, row in enumerate(rows):
        if row[0] != 0:
            return k
    return None


def with_first_term_at_zero(told):
    """The series times the power and the sign by which its least exponent is 0 and the coefficient there above 0."""
    if len(told) == 0:
        return ()
    least, coefficient = told[0]
    return series_times(told, ((-least, 1 if coefficient > 0 else -1),))


def alexander(grid):
    """Alexander's polynomial, a series."""
    rows = [line(grid, r, course) for r, course in enumerate(courses(grid))]
    matrix = [lifted(row[:-1]) for row in rows[:-1]]
    # One integer can stand for a whole series: its value at a power of two beyond all coefficients.
    bits = bits_enough(matrix)
    values = [[at_power_of_two(told, bits) for told in row] for row in matrix]
    return with_first_term_at_zero(read_digits(determinant(values), bits))
