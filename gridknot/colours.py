"""Colourings by a prime: which there are, how many, and the papers that show their number."""

from gridknot.errors import InvalidNumber
from gridknot.kinds import is_number, is_number_below, is_plain, is_tuple_of, rises
from gridknot.powers import power
from gridknot.strands import courses

PRIMES = (2, 3, 5, 7, 11, 13)


def is_small_prime(value):
    """Whether value is a prime that colours."""
    return is_number(value) and value in PRIMES


def must_be_small_prime(p):
    """Tells the error if p is no prime that colours."""
    if not is_small_prime(p):
        raise InvalidNumber(p)


def number_in_the_end(value, course, p):
    """The number that the course of a row ends with when the columns have the numbers of value."""
    a, crossed, _ = course
    v = value[a]
    for c in crossed:
        v = (2 * value[c] - v) % p
    return v


def colours_grid(grid, p, value):
    """Whether the value is a colouring by the prime p."""
    if not is_tuple_of(value, len(grid)) or not all([is_number_below(v, p) for v in value]):
        return False
    return all([number_in_the_end(value, course, p) == value[course[2]] for course in courses(grid)])


def is_colouring(grid, p, value):
    """Whether the value is a colouring by p."""
    must_be_small_prime(p)
    return colours_grid(grid, p, value)


def equation(size, course, p):
    """The multiples of the columns' numbers whose sum is the number in the end of the course less that of its X."""
    a, crossed, b = course
    sums = [0] * size
    sums[a] = 1
    for c in crossed:
        sums = [-k % p for k in sums]
        sums[c] = (sums[c] + 2) % p
    sums[b] = (sums[b] - 1) % p
    return sums


def equations(grid, p):
    """The equations of all rows."""
    return [equation(len(grid), course, p) for course in courses(grid)]


def inverse(k, p):
    """The number that k times leaves 1 by the prime p."""
    return [m for m in range(1, p) if m * k % p == 1][0]


def less(sums, by, others, p):
    """The sums less by times the others."""
    return [(k - by * m) % p for k, m in zip(sums, others)]


def solved(rows, p):
    """The equations solved for their last places, and the numbers of the first ones that tell as much as all do.

    The former is a dict: each place that is solved for has an equation with 1 there, 0 behind, and 0 at the places
    that the others are solved for.
    """
    by_place = {}
    telling = []
    for number, row in enumerate(rows):
        left = row
        for place, other in by_place.items():
            left = less(left, left[place], other, p)
        places = [k for k, m in enumerate(left) if m != 0]
        if places:
            last = places[-1]
            factor = inverse(left[last], p)
            left = [k * factor % p for k in left]
            by_place = {place: less(other, other[last], left, p) for place, other in by_place.items()}
            by_place[last] = left
            telling.append(number)
    return (by_place, tuple(telling))


def basis_of(by_place, size, p):
    """The basis of the colourings, one for each place that no equation is solved for."""
    basis = []
    for free in range(size):
        if free not in by_place:
            # An equation is 0 behind the place it is solved for, so only places behind free get a number of it.
            numbers = [-by_place[k][free] % p if k in by_place else 0 for k in range(size)]
            numbers[free] = 1
            basis.append(tuple(numbers))
    return tuple(basis)


def colourings(grid, p):
    """How many colourings by p there are."""
    must_be_small_prime(p)
    by_place, _ = solved(equations(grid, p), p)
    return power(p, len(grid) - len(by_place))


def colours_claim(grid, p):
    """The claim that tells how many colourings by p there are."""
    return ("colours", p, colourings(grid, p))


def colours_paper(grid, p):
    """The paper of the true claim: a basis of the colourings and the rows whose equations leave no more."""
    must_be_small_prime(p)
    by_place, telling = solved(equations(grid, p), p)
    return (basis_of(by_place, len(grid), p), telling)


def is_colours_claim(value):
    """Whether the value, made of tuples, integers and words, has the form of the claim."""
    return is_tuple_of(value, 3) and value[0] == "colours" and is_small_prime(value[1]) and is_number(value[2])


def first_place(numbers):
    """The place of the first number that is not 0; that behind the last one if all are 0."""
    for place, number in enumerate(numbers):
        if number != 0:
            return place
    return len(numbers)


def is_basis(grid, p, value):
    """Whether the value is a tuple of colourings, each the only one with a number unlike 0 at its first place, a 1."""
    if not isinstance(value, tuple) or len(value) == 0 or not all([colours_grid(grid, p, row) for row in value]):
        return False
    places = [first_place(row) for row in value]
    if places[-1] == len(grid) or not rises(places):
        return False
    for row, place in zip(value, places):
        if row[place] != 1 or [other[place] for other in value].count(0) != len(value) - 1:
            return False
    return True


def are_telling_rows(grid, p, value):
    """Whether the value is a rising tuple of rows whose equations are independent."""
    if not isinstance(value, tuple) or not all([is_number_below(r, len(grid)) for r in value]) or not rises(value):
        return False
    rows = equations(grid, p)
    by_place, _ = solved([rows[r] for r in value], p)
    return len(by_place) == len(value)


def colours_holds(grid, claim, paper):
    """Whether the paper shows the claim of the number of colourings."""
    if not is_plain(claim) or not is_plain(paper) or not is_colours_claim(claim) or not is_tuple_of(paper, 2):
        return False
    _, p, k = claim
    basis, rows = paper
    if not is_basis(grid, p, basis) or not are_telling_rows(grid, p, rows):
        return False
    return len(basis) + len(rows) == len(grid) and k == power(p, len(basis))
