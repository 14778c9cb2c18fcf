"""What rooms are taken to by matrices, told by its furthest points: a view goes to where a form is greatest.

The tableaus of views stand at points of bounded rooms.
"""

from math import lcm

from everygust.fractions import fraction_of
from everygust.vectors import divided, dot, unit


class View:
    """What lines of integers, numbers put to them and a divisor make of the points of a tableau's room."""

    def __init__(self, tableau, lines, moved, divisor):
        self.tableau = tableau
        self.lines = lines
        self.moved = moved
        self.divisor = divisor
        self.size = len(lines)

    def reach(self, form):
        """Goes to where a form of integers is greatest; the fraction of its worth there."""
        told = [0] * self.tableau.n
        for k, line in zip(form, self.lines):
            if k:
                told = [v + k * w for v, w in zip(told, line)]
        self.tableau.aim_at(told)
        self.tableau.climb()
        den = self.tableau.den
        return fraction_of(self.tableau.aim[0] + dot(form, self.moved) * den, den * self.divisor)

    def spot(self):
        """The pair (numbers, denominator) of the point that is stood at."""
        numbers, den = self.tableau.spot()
        found = [dot(line, numbers) + k * den for line, k in zip(self.lines, self.moved)]
        return (found, den * self.divisor)

    def source(self):
        """The pair (numbers, denominator) of the point of the tableau's room that is taken there."""
        numbers, den = self.tableau.spot()
        return (tuple(numbers), den)

    def weights(self):
        """The weights of the tableau's rows that show what was reached to be greatest, if the divisor is 1."""
        return divided(self.tableau.weights(), self.tableau.den)


class SumView:
    """The sums of the points of two views of one size."""

    def __init__(self, one, other):
        self.one = one
        self.other = other
        self.size = one.size

    def reach(self, form):
        """Goes to where a form of integers is greatest; the fraction of its worth there."""
        p, q = self.one.reach(form)
        r, s = self.other.reach(form)
        return fraction_of(p * s + r * q, q * s)

    def spot(self):
        """The pair (numbers, denominator) of the point that is stood at."""
        numbers, den = self.one.spot()
        others, other = self.other.spot()
        return ([v * other + w * den for v, w in zip(numbers, others)], den * other)

    def source(self):
        """The two points that are summed, as the views tell them."""
        return (self.one.source(), self.other.source())


def shown_view(tableau, shown):
    """The points of a tableau's room at shown places."""
    lines = [unit(tableau.n, k, 1) for k in shown]
    return View(tableau, lines, (0,) * len(lines), 1)


def whole_lines(matrix, shift):
    """The triple (lines, moved, divisor) of integers that a matrix and a shift tell."""
    divisor = 1
    for line in list(matrix) + [shift]:
        for _, q in line:
            divisor = lcm(divisor, q)
    lines = [tuple([p * (divisor // q) for p, q in line]) for line in matrix]
    return (lines, tuple([p * (divisor // q) for p, q in shift]), divisor)


def taken_view(tableau, matrix, shift):
    """What a matrix and a shift take a tableau's room to."""
    lines, moved, divisor = whole_lines(matrix, shift)
    return View(tableau, lines, moved, divisor)
