"""Zones sliced by what forms tell there, rounded to q-ths: where they are is told by the corners of their closings.

A form is a pair (members, number) of a tuple of fractions and a fraction that stands alone.
"""

from everygust.errors import TooGreat
from everygust.fractions import fraction_of, highest, lowest, minus, times
from everygust.lean import lean
from everygust.rows import row_of
from everygust.vectors import dot, whole
from everygust.zones import zone_of

MOST_WIDE = 400


def rounded_number(t, q):
    """The integer m for which m / q is a fraction rounded to q-ths."""
    # It is the least one with 2 q t <= 2 m + 1.
    return -((t[1] - 2 * q * t[0]) // (2 * t[1]))


def corner_vectors(zone):
    """The corners of a bounded zone's closing, each with a common denominator ahead of its coordinates."""
    return [vector for vector, _ in zone.cone.edges]


def ends_of(zone, form):
    """The least and the greatest that a form tells in the closing of a bounded zone."""
    numbers, denominator = whole((form[1],) + form[0])
    told = [fraction_of(dot(numbers, vector), denominator * vector[0]) for vector in corner_vectors(zone)]
    return (lowest(told), highest(told))


def upper_row(form, q, m):
    """The row of the points at which a form, rounded, is m / q at most, or just beyond what rounds to it."""
    return row_of(form[0], minus(fraction_of(2 * m + 1, 2 * q), form[1]))


def lower_row(form, q, m):
    """The row that the points at which a form, rounded, is m / q at least keep strictly."""
    # It is not made plain: what holds strictly of noughts would not hold so any more.
    turned = tuple([times((-1, 1), k) for k in form[0]])
    numbers, _ = whole(turned + (minus(form[1], fraction_of(2 * m - 1, 2 * q)),))
    return (numbers[:-1], numbers[-1])


def slice_rows(forms, q, t):
    """The pair of the upper and the lower rows of the slice in which forms, rounded, are the integers of t, q-ths."""
    ahead = tuple([upper_row(form, q, m) for form, m in zip(forms, t)])
    return (ahead, tuple([lower_row(form, q, m) for form, m in zip(forms, t)]))


class Sliced:
    """What rows leave of a bounded room, sliced by forms; zone is None if they leave nothing."""

    def __init__(self, n, rows, forms):
        self.n = n
        self.rows = rows
        self.forms = forms
        self.zone = zone_of((n, rows, ()))
        self.ends = [] if self.zone is None else [ends_of(self.zone, form) for form in forms]

    def refuse_wide(self, q):
        """Refuses it if there are too many slices from end to end, with points or not."""
        found = 1
        for low, high in self.ends:
            found *= rounded_number(high, q) - rounded_number(low, q) + 1
        if found > MOST_WIDE:
            raise TooGreat()

    def region(self, q, t):
        """The region of the points of a slice."""
        ahead, behind = slice_rows(self.forms, q, t)
        return (self.n, self.rows + ahead, behind)

    def first(self, q, look):
        """What a look tells first, that is not None, of the slices that have points, ascending; None if nothing.

        It is called with the integers of a slice and with its zone.
        """
        return None if self.zone is None else self._first_in(self.zone, q, look, ())

    def _first_in(self, zone, q, look, t):
        if len(t) == len(self.forms):
            return look(t, zone)
        form, rest = self.forms[len(t)], zone
        low, high = ends_of(zone, form)
        for m in range(rounded_number(low, q), rounded_number(high, q) + 1):
            kept, rest = rest.parted(upper_row(form, q, m))
            found = None if kept is None else self._first_in(kept, q, look, t + (m,))
            if found is not None or rest is None:
                return found
        return None

    def closed_rooms(self, q):
        """The list of the pairs (t, closed) of the slices that have points, closed being lean."""
        found = []
        self.first(q, lambda t, zone: found.append((t, self._closed(q, t, zone))))
        return found

    def _closed(self, q, t, zone):
        # Rows that no corner reaches are not needed.
        _, rows, strict = self.region(q, t)
        vectors, reached = corner_vectors(zone), []
        for a, b in rows + strict:
            if any([dot(a, vector[1:]) == b * vector[0] for vector in vectors]):
                reached.append((a, b))
        return lean((self.n, tuple(reached)))
