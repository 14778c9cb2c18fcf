"""What the rows of a room ask of a standing and a wish ahead of all gusts: the tightened rows, in integers."""

from everygust.fractions import fraction_of, is_less, minus, times, total
from everygust.rows import first_broken, next_of, reach
from everygust.solids import room_corners
from everygust.solving import form_worth
from everygust.vectors import divisor, dot, whole


def column_sums(members, matrix, size):
    """The tuple of the sums of the members times the matrix's lines, column by column; size tells how many."""
    return tuple([total([times(k, line[j]) for k, line in zip(members, matrix)]) for j in range(size)])


def strongest(blown, corners):
    """The greatest worth of a form of a gust, and the first corner that has it."""
    best, found = None, None
    for corner in corners:
        value = form_worth(blown, corner)
        if best is None or is_less(best, value):
            best, found = value, corner
    return (best, found)


def first_out(plant, corners, x, u, room):
    """The first of some gusts behind which the next standing is not in a room, None if there is none."""
    for gust in corners:
        if first_broken(room, next_of(plant, x, u, gust)) is not None:
            return gust
    return None


class Demands:
    """The tightened rows of a room, for a plant.

    tightened has for each row of the room the tuple (of a standing, of a wish, bound, scale, gust): two tuples of
    integers and an integer, which are the tightened row's numbers taken scale times, a fraction above 0; and the least
    corner of the gusts' room that asks so much.
    """

    def __init__(self, plant, room):
        self.plant = plant
        self.gusts = room_corners(plant[5])
        self.tightened = [self._tightened(row) for row in room[1]]

    def _tightened(self, row):
        by_standing, by_wish, by_gust, still, wishes, gusts = self.plant
        members = tuple([(k, 1) for k in row[0]])
        n, m = len(still), wishes[0]
        value, gust = strongest(column_sums(members, by_gust, gusts[0]), self.gusts)
        bound = minus((row[1], 1), reach(row, still))
        told = column_sums(members, by_standing, n) + column_sums(members, by_wish, m)
        numbers, scale = whole(told + (minus(bound, value),))
        shared = max(1, divisor(numbers))
        numbers = tuple([k // shared for k in numbers])
        return (numbers[:n], numbers[n:n + m], numbers[-1], fraction_of(scale, shared), gust)

    def pair_rows(self, others):
        """The rows of all pairs of a standing and a wish: the tightened ones, the wishes', and other ones, as told."""
        ahead = (0,) * len(self.plant[0])
        rows = [(row[0] + row[1], row[2]) for row in self.tightened]
        rows.extend([(ahead + a, b) for a, b in self.plant[4][1]])
        rows.extend(others)
        return rows

    def wish_rows(self, x):
        """The rows of the good wishes at a standing: the wishes', and then the tightened ones, denominator times."""
        numbers, denominator = whole(x)
        rows = list(self.plant[4][1])
        for row in self.tightened:
            told, u, bound = row[:3]
            rows.append((tuple([k * denominator for k in u]), bound * denominator - dot(told, numbers)))
        return rows

    def parts(self, weights, times_taken):
        """The parts of a paper by weights of the tightened rows, which were taken so often: (row, weight, gust)."""
        found = []
        for number, (weight, row) in enumerate(zip(weights, self.tightened)):
            if weight[0] > 0:
                found.append((number, times(weight, fraction_of(row[3][0] * times_taken, row[3][1])), row[4]))
        return tuple(found)


def with_noughts(room, many):
    """The rows of a room, each with so many noughts behind its numbers."""
    return [(a + (0,) * many, b) for a, b in room[1]]
