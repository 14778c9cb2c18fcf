"""Booked rooms: standings together with the prices that are sure from there, one step ahead of rows and forms.

Forms are triples (a, b, d), whose worth at a standing is (a . x + b) / d.
"""

from everygust.demands import Demands
from everygust.fractions import ceiling_of, highest, plus, times, total
from everygust.limits import MOST_ROWS
from everygust.outlines import Outline
from everygust.solids import corners_if_any, room_corners
from everygust.settled import settled
from everygust.solving import form_worth, greatest_at
from everygust.tableau import Tableau
from everygust.trimming import bare_rows
from everygust.vectors import divided, dot, unit, whole
from everygust.views import shown_view


def form_at(form, x):
    """The worth of a form at a standing."""
    return times((1, form[2]), plus(form_worth(divided(form[0], 1), x), (form[1], 1)))


def form_rows(forms):
    """The rows of the points with a number behind their coordinates that is at least the worth of each form."""
    return [(a + (-d,), -b) for a, b, d in forms]


def price_of(n, rows):
    """The price that the rows of a lean room of points above tell: the pair of a room and forms."""
    room = [(a[:n], b) for a, b in rows if a[n] == 0]
    forms = [(a[:n], -b, -a[n]) for a, b in rows if a[n] < 0]
    return ((n, tuple(sorted(room))), tuple(sorted(forms)))


class Asking:
    """What rows and forms below, and the triples of steps, ask of a standing, a wish and what is still to be paid.

    asked has for each row and then each form a tuple (of a standing, of a wish, of what is to be paid, bound) of
    integers, and often has how many times each row, and each form's worth, was taken; gusts has the least corner that
    asks so much of each.
    """

    def __init__(self, plant, steps, room, forms):
        self.plant = plant
        self.steps = steps
        n = room[0]
        ahead = Demands(plant, room).tightened
        behind = Demands(plant, (n, tuple([(a, -b) for a, b, _ in forms]))).tightened
        self.asked = [row[:2] + (0,) + row[2:3] for row in ahead]
        self.often = [row[3] for row in ahead]
        for (told, by_wish, bound, (p, q), _), form in zip(behind, forms):
            told = tuple([k * q for k in told])
            self.asked.append((told, tuple([k * q for k in by_wish]), -form[2] * p, bound * q))
            self.often.append((p * form[2], 1))
        self.gusts = [row[4] for row in ahead + behind]

    def wish_rows(self, x):
        """The rows of a wish at a standing, then what is paid in all, then what is left to be paid, denominator times.

        They are those of the rows and forms below, the wishes', and those of the triples of steps.
        """
        numbers, den = whole(x)
        rows = []
        for told, by_wish, paid, bound in self.asked:
            members = tuple([k * den for k in by_wish]) + (0, paid * den)
            rows.append((members, bound * den - dot(told, numbers)))
        rows.extend([(a + (0, 0), b) for a, b in self.plant[4][1]])
        for p, q, r in self.steps:
            members = tuple([k * den for k in q]) + (-den, den)
            rows.append((members, -r * den - dot(p, numbers)))
        return rows

    def cheapest(self, x):
        """The pair (wish, price) of a wish that pays the least from a standing, None if there is no good one."""
        m = self.plant[4][0]
        tableau = Tableau(m + 2, self.wish_rows(x))
        if tableau.settle() is not None:
            return None
        tableau.aim_at(unit(m + 2, m, -1))
        tableau.climb()
        numbers, denominator = tableau.spot()
        found = divided(numbers, denominator)
        return (found[:m], found[m])


class Booking:
    """The room of all (x, t, u, s): x of the walls, u a wish, t paid in all from x, s of it behind the step by u."""

    def __init__(self, plant, walls, cost, room, forms):
        self.n, self.m = walls[0], plant[4][0]
        self.asking = Asking(plant, cost[0], room, forms)
        self.counts = (len(self.asking.asked), len(plant[4][1]), len(walls[1]), len(cost[0]))
        wished = (0,) * self.m
        rows = [(told + (0,) + u + (paid,), bound) for told, u, paid, bound in self.asking.asked]
        rows.extend([((0,) * (self.n + 1) + a + (0,), b) for a, b in plant[4][1]])
        rows.extend([(a + (0,) + wished + (0,), b) for a, b in walls[1]])
        rows.extend([(p + (-1,) + q + (1,), -r) for p, q, r in cost[0]])
        # All that may be paid is barred at a number above each sure price, so that the room is bounded.
        rows.append((unit(self.n + self.m + 2, self.n, 1), self._most(walls, room, forms)))
        self.rows = tuple(rows)

    def _most(self, walls, room, forms):
        ahead, behind = corners_if_any(walls), corners_if_any(room)
        if not ahead or not behind:
            return 0
        steps = []
        for p, q, r in self.asking.steps:
            greatest = highest([form_worth(divided(p, 1), x) for x in ahead])
            wished = highest([form_worth(divided(q, 1), u) for u in room_corners(self.asking.plant[4])])
            steps.append(total([greatest, wished, (r, 1)]))
        paid = highest([form_at(form, x) for form in forms for x in behind])
        return ceiling_of(plus(highest(steps), paid)) + 1

    def shown_by(self, tableau, told):
        """The entry of a dear paper for a row or a form of this price; the tableau stands at a point of the room."""
        is_form = len(told) == 3
        paid, share = ((-told[2],), (1, told[2])) if is_form else ((0,), (1, 1))
        members = told[0] + paid + (0,) * (self.m + 1)
        weights = [times(share, weight) for weight in greatest_at(tableau, divided(members, 1))[3]]
        rows, wishes, walls, steps = self.counts
        parts = []
        for i, weight in enumerate(weights[:rows]):
            if weight[0] > 0:
                parts.append((i, times(weight, self.asking.often[i]), self.asking.gusts[i]))
        ends = [rows + wishes, rows + wishes + walls]
        nu, lam = weights[rows:ends[0]], weights[ends[0]:ends[1]]
        mu = (tuple(weights[ends[1]:ends[1] + steps]),) if is_form else ()
        return (told, tuple(parts)) + mu + (tuple(nu), tuple(lam))

    def price(self):
        """The lean price of the standings and what is sure to be paid."""
        tableau = settled((self.n + self.m + 2, self.rows))
        if tableau is None:
            return ((self.n, bare_rows(self.n)), ())
        # Beside the rows that count there is the one that bars what is paid.
        outline = Outline(shown_view(tableau, list(range(self.n + 1))), MOST_ROWS + 1)
        return price_of(self.n, outline.room()[1])
