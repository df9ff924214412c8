"""Ways of the group of the link into permutations of a few points."""

from gridknot.errors import InvalidNumber
from gridknot.kinds import is_number
from gridknot.strands import courses, sign_of

PERMUTATIONS = {
    1: ((0,),),
    2: ((0, 1), (1, 0)),
    3: ((0, 1, 2), (0, 2, 1), (1, 0, 2), (1, 2, 0), (2, 0, 1), (2, 1, 0)),
}


def is_number_of_points(value):
    """Whether permutations of that many points are counted."""
    return is_number(value) and value in PERMUTATIONS


def after(f, g):
    """The permutation f times g: f first, then g."""
    return tuple([g[k] for k in f])


def inverse(x):
    """The permutation that takes back what x does."""
    return tuple([x.index(k) for k in range(len(x))])


def passed(v, x, s):
    """What v becomes where it passes below x with the sign s: x to the power -s, times v, times x to the power s."""
    if s == 1:
        return after(after(inverse(x), v), x)
    return after(after(x, v), inverse(x))


def followed(v, crossed, chosen):
    """What v becomes below the crossed columns, pairs of a column and a sign, one after another."""
    for c, s in crossed:
        v = passed(v, chosen[c], s)
    return v


def signed_courses(grid):
    """For each row the column of its O, the columns that cross it, each with the sign there, and that of its X."""
    return [
        (a, [(c, sign_of(grid, c, r)) for c in crossed], b)
        for r, (a, crossed, b) in enumerate(courses(grid))
    ]


def turned_round(crossed):
    """The crossed columns and signs for the other direction."""
    return [(c, -s) for c, s in reversed(crossed)]


def settled(rows, known):
    """The permutations of the columns with those added that the rows tell from the known ones, None where still open.

    The answer is None if a row does not end as it must.
    """
    chosen = list(known)
    changed = True
    while changed:
        changed = False
        for a, crossed, b in rows:
            if None in [chosen[c] for c, _ in crossed] or (chosen[a] is None and chosen[b] is None):
                continue
            if chosen[a] is not None and chosen[b] is not None:
                if followed(chosen[a], crossed, chosen) != chosen[b]:
                    return None
            elif chosen[b] is None:
                chosen[b] = followed(chosen[a], crossed, chosen)
                changed = True
            else:
                chosen[a] = followed(chosen[b], turned_round(crossed), chosen)
                changed = True
    return chosen


def open_columns(row, chosen):
    """The columns that the row speaks of whose permutations are still open, those that cross it first."""
    a, crossed, b = row
    return [i for i in [c for c, _ in crossed] + [a, b] if chosen[i] is None]


def next_column(rows, chosen):
    """The column to be chosen next: one of a row that lacks the fewest."""
    lacking = [open_columns(row, chosen) for row in rows]
    return min([columns for columns in lacking if columns], key=len)[0]


def ways_from(rows, known, choices):
    """How many ways there are with the known permutations."""
    chosen = settled(rows, known)
    if chosen is None:
        return 0
    if None not in chosen:
        return 1
    i = next_column(rows, chosen)
    return sum([ways_from(rows, chosen[:i] + [x] + chosen[i + 1:], choices) for x in choices])


def ways(grid, m):
    """How many ways there are into permutations of m points."""
    if not is_number_of_points(m):
        raise InvalidNumber(m)
    return ways_from(signed_courses(grid), [None] * len(grid), PERMUTATIONS[m])
