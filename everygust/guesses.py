"""Guesses by the first binary figures of great integers, which make each exact exchange slow: where to begin.

What is guessed may be wrong; who asks looks it through.
"""

from everygust.tableau import Tableau
from everygust.vectors import divided, unit, whole

GREAT_FIGURES = 160
KEPT_FIGURES = 64


def is_great(rows):
    """Whether some row has a great integer."""
    return any(abs(k).bit_length() > GREAT_FIGURES for a, _ in rows for k in a)


def rounded_row(row):
    """The row with its first binary figures alone."""
    members, bound = row
    if not any(members):
        return (members, (bound > 0) - (bound < 0))
    spare = max([abs(k) for k in members]).bit_length() - KEPT_FIGURES
    if spare <= 0:
        return row
    return ([k >> spare for k in members], bound >> spare)


def likely_tight(n, rows, form):
    """The numbers of rows that may be tight where a form of fractions is greatest, if some row is great."""
    if not is_great(rows):
        return []
    tableau = Tableau(n, [rounded_row(row) for row in rows])
    if tableau.settle() is None:
        tableau.aim_at(rounded_row((whole(form)[0], 0))[0])
        tableau.climb()
    return tableau.tight_numbers()


def likely_inside(n, rows):
    """A point of n that may keep all rows with something to spare, None if none was found."""
    told = []
    for row in rows:
        members, bound = rounded_row(row)
        told.append((tuple(members) + (sum([abs(k) for k in members]),), bound))
    told.append((unit(n + 1, n, 1), 1))
    tableau = Tableau(n + 1, told)
    if tableau.settle() is not None:
        return None
    tableau.aim_at(unit(n + 1, n, 1))
    if tableau.climb() or tableau.aim[0] <= 0:
        return None
    numbers, denominator = tableau.spot()
    return divided(numbers[:n], denominator)
