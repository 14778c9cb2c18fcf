"""Tableaus that stand at a point of a room, and the ways that lead from there without end."""

from everygust.tableau import Tableau


def settled(room):
    """A tableau of a room that stands at one of its points, None if it has none."""
    tableau = Tableau(room[0], room[1])
    return tableau if tableau.settle() is None else None


def _row_numbers(tableau):
    return {name - tableau.n: True for name in tableau.basic + tableau.loose if name >= tableau.n}


def way_of(tableau):
    """A way of the room, a list of integers, None if it has none; the tableau stands at a point of it."""
    for c, name in enumerate(tableau.loose):
        if name < tableau.n:
            tableau.aim_at([0] * tableau.n)
            return tableau.way(c + 1)
    # Without such a line each way lets some slack grow, and so the sum of all.
    tableau.aim_at_slacks(_row_numbers(tableau))
    c = tableau.climb()
    return tableau.way(c) if c else None


def tight_among(tableau, numbers):
    """The ascending numbers of those of some rows that are tight at each point of the room."""
    left = {k: True for k in numbers}
    while left:
        # Rows seen to be slack somewhere need not be looked at again.
        left = _less(left, tableau.slack_numbers())
        tableau.aim_at_slacks(left)
        c = tableau.climb()
        if c:
            left = _less(left, _growing(tableau, c))
        elif tableau.aim[0] == 0:
            return sorted(left)
    return []


def always_tight(tableau):
    """The ascending numbers of the rows that are tight at each point of the room."""
    return tight_among(tableau, list(_row_numbers(tableau)))


def _less(numbers, others):
    return {k: True for k in numbers if k not in others}


def _growing(tableau, c):
    # The numbers of the rows whose slack grows without end along a column.
    found = {tableau.loose[c - 1] - tableau.n: True}
    for row, name in zip(tableau.body, tableau.basic):
        if name >= tableau.n and row[c] > 0:
            found[name - tableau.n] = True
    return found
