"""Wishes that are told ahead: what rows at later steps ask of them for all standings of a room and all gusts."""

from everygust.demands import column_sums, strongest
from everygust.fractions import minus, plus, times
from everygust.refusals import sound_tableau
from everygust.solids import room_corners
from everygust.solving import form_worth, greatest_at
from everygust.tableau import Tableau
from everygust.unknowns import form_sum, form_times
from everygust.vectors import divided, whole


class Ahead:
    """The steps of a plant by as many wishes as are told ahead, from the standings of a room, which must be sound."""

    def __init__(self, plant, room, many):
        self.plant = plant
        self.many = many
        self.size = many * plant[4][0]
        self.tableau = sound_tableau(room)
        self.gusts = room_corners(plant[5])

    def forms(self, row, j):
        """What a row at step j asks of the standings j, .., 0 steps ahead of it, one after another: j + 1 forms."""
        found = [divided(row[0], 1)]
        for _ in range(j):
            found.append(column_sums(found[-1], self.plant[0], len(self.plant[0])))
        return found

    def by_wishes(self, forms):
        """The form of all wishes, one behind the other, that such forms tell."""
        found = ()
        for form in reversed(forms[:-1]):
            found += column_sums(form, self.plant[1], self.plant[4][0])
        return found + ((0, 1),) * (self.size - len(found))

    def _blown(self, form):
        return column_sums(form, self.plant[2], self.plant[5][0])

    def alone(self, forms, x, winds):
        """What such forms make of a standing and gusts without wishes."""
        found = form_worth(forms[-1], x)
        for form, gust in zip(reversed(forms[:-1]), winds):
            found = plus(found, plus(form_worth(form, self.plant[3]), form_worth(self._blown(form), gust)))
        return found

    def strongest(self, forms):
        """The pair of a standing of the room and gusts with which such forms make the most."""
        _, _, x, _ = greatest_at(self.tableau, forms[-1])
        return (x, tuple([strongest(self._blown(form), self.gusts)[1] for form in reversed(forms[:-1])]))

    def asked(self, row, j):
        """What a row at step j asks of the wishes: the tuple (form of them, bound, standing, gusts)."""
        forms = self.forms(row, j)
        x, winds = self.strongest(forms)
        return (self.by_wishes(forms), minus((row[1], 1), self.alone(forms, x, winds)), x, winds)

    def wish_rows(self):
        """The rows of the wishes at each step."""
        m, found = self.plant[4][0], []
        for j in range(self.many):
            ahead, behind = (0,) * (j * m), (0,) * (self.size - j * m - m)
            found.extend([(ahead + a + behind, b) for a, b in self.plant[4][1]])
        return found

    def answered(self, told):
        """("wishes", point) with all wishes in one point that keep told rows, or ("block", parts, nu).

        told has pairs (what stands ahead in a part, what asked tells of a row).
        """
        rows, often = [], []
        for _, (members, bound, _, _) in told:
            numbers, scale = whole(members + (bound,))
            rows.append((numbers[:-1], numbers[-1]))
            often.append((scale, 1))
        tableau = Tableau(self.size, rows + self.wish_rows())
        bare = tableau.settle()
        if bare is None:
            numbers, denominator = tableau.spot()
            return ("wishes", divided(numbers, denominator))
        parts = []
        for (begin, (_, _, x, winds)), weight, scale in zip(told, bare, often):
            if weight[0] > 0:
                parts.append(begin + (times(weight, scale), x, winds))
        many, rest = len(self.plant[4][1]), bare[len(told):]
        return ("block", tuple(parts), tuple([rest[j * many:j * many + many] for j in range(self.many)]))

    def sum_fault(self, told, nu):
        """("unknown",), or ("sum",) if rows, and the wishes' rows with weights, do not add up to more than 0; or None.

        told has tuples (row, step, weight, standing, gusts).
        """
        form, every = ((0, 1),) * self.size, (0, 1)
        for row, j, weight, x, winds in told:
            forms = self.forms(row, j)
            form = form_sum(form, form_times(weight, self.by_wishes(forms)))
            every = plus(every, times(weight, minus(self.alone(forms, x, winds), (row[1], 1))))
        weights = [weight for some in nu for weight in some]
        for (members, bound), weight in zip(self.wish_rows(), weights):
            form = form_sum(form, form_times(weight, divided(members, 1)))
            every = minus(every, times(weight, (bound, 1)))
        if any(k[0] for k in form):
            return ("unknown",)
        return None if every[0] > 0 else ("sum",)
