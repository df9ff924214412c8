"""Series: sums of powers of one name with integers before them, as tuples of pairs (exponent, coefficient)."""

from math import gcd

from gridknot.errors import Undefined
from gridknot.kinds import is_integer, is_tuple_of, rises
from gridknot.powers import power


def is_term(value):
    """Whether the value is a pair of an exponent and a coefficient unlike 0."""
    return is_tuple_of(value, 2) and is_integer(value[0]) and is_integer(value[1]) and value[1] != 0


def is_series(value):
    """Whether the value is a series."""
    if not isinstance(value, tuple) or not all([is_term(term) for term in value]):
        return False
    return rises([term[0] for term in value])


def series_of(sums):
    """The series of a dict of coefficients by their exponents."""
    return tuple([(exponent, sums[exponent]) for exponent in sorted(sums) if sums[exponent] != 0])


def series_plus(a, b):
    """The sum of the two series."""
    sums = dict(a)
    for exponent, coefficient in b:
        sums[exponent] = sums.get(exponent, 0) + coefficient
    return series_of(sums)


def series_times(a, b):
    """The product of the two series."""
    sums = {}
    for exponent, coefficient in a:
        for other, factor in b:
            sums[exponent + other] = sums.get(exponent + other, 0) + coefficient * factor
    return series_of(sums)


def shortened(over, under):
    """The fraction over / under without a common divisor, as a pair with the latter above 0."""
    common = gcd(over, under)
    if under < 0:
        common = -common
    return (over // common, under // common)


def series_at(a, top, bottom):
    """The value of the series at top / bottom, as a pair of integers."""
    if top == 0 or bottom == 0:
        raise Undefined("value")
    if len(a) == 0:
        return (0, 1)
    least = a[0][0]
    most = a[-1][0]
    # With the least power of top and the greatest one of 1 / bottom taken out, integers are left to be summed.
    over = 0
    scale = 1
    ahead = most
    for exponent, coefficient in reversed(a):
        scale = scale * power(bottom, ahead - exponent)
        over = over * power(top, ahead - exponent) + coefficient * scale
        ahead = exponent
    over = over * power(top, max(least, 0)) * power(bottom, max(-most, 0))
    return shortened(over, power(top, max(-least, 0)) * power(bottom, max(most, 0)))


def term_text(exponent, size, name):
    """The text of a term, size being that of its coefficient."""
    if exponent == 0:
        return str(size)
    factor = name if exponent == 1 else f"{name}^{exponent}"
    return factor if size == 1 else f"{size}*{factor}"


def series_text(a, name):
    """The text of the series with the name for what it is a series in."""
    if len(a) == 0:
        return "0"
    text = ""
    for exponent, coefficient in a:
        if coefficient < 0:
            text = text + "-"
        elif text != "":
            text = text + "+"
        text = text + term_text(exponent, abs(coefficient), name)
    return text
