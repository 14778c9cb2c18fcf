"""Least sets: which few rows of a target and of the wishes bar wishes together, and how great their sums can be."""

from itertools import combinations

from everygust.demands import column_sums
from everygust.echelon import nought_with
from everygust.errors import TooGreat
from everygust.fractions import plus, times, total
from everygust.gathered import Gathered
from everygust.rows import reach
from everygust.sights import slip_told
from everygust.solving import greatest_at
from everygust.unknowns import form_times, unknowns_told
from everygust.vectors import divided, primitive, whole
from everygust.weights import greatest

MOST_TIED = 10


def refuse_many_rows(plant, targets):
    """Refuses targets of which one has too many rows together with the wishes' room."""
    for target in targets:
        if len(target[1]) + len(plant[4][1]) > MOST_TIED:
            raise TooGreat()


def _whole_vectors(plant, target):
    # What stands before the wish in each row of the target and then of the wishes, each with how often it was taken.
    found = [whole(column_sums(divided(a, 1), plant[1], plant[4][0])) for a, _ in target[1]]
    return found + [(a, 1) for a, _ in plant[4][1]]


def _shares_of(vectors, m):
    # The integers above 0, without a common divisor, by which vectors add up to noughts, if just such do; or None.
    rows = [tuple([numbers[j] for numbers, _ in vectors]) for j in range(m)]
    base = nought_with(rows, len(vectors))
    if len(base) != 1:
        return None
    found = base[0] if base[0][0] > 0 else tuple([-k for k in base[0]])
    if any(k <= 0 for k in found):
        return None
    return primitive([k * often for k, (_, often) in zip(found, vectors)])


def least_sets(plant, target):
    """The ascending list of the least sets for a target."""
    m, vectors = plant[4][0], _whole_vectors(plant, target)
    found = []
    for many in range(1, m + 2):
        for some in combinations(list(range(len(vectors))), many):
            shares = _shares_of([vectors[k] for k in some], m) if some[0] < len(target[1]) else None
            if shares is not None:
                found.append(tuple(zip(some, shares)))
    return sorted(found)


class Tie:
    """A least set: rows has the pairs (row of the target, share), nu the shares of the wishes' rows, each in order.

    numbers has the numbers of its rows of the target; bound is its bound.
    """

    def __init__(self, plant, target, pairs):
        many, taken = len(target[1]), dict(pairs)
        self.numbers = [k for k, _ in pairs if k < many]
        self.rows = [(target[1][k], share) for k, share in pairs if k < many]
        self.nu = tuple([(taken.get(many + k, 0), 1) for k in range(len(plant[4][1]))])
        ahead = sum([share * row[1] for row, share in self.rows])
        self.bound = (ahead + sum([share[0] * b for share, (_, b) in zip(self.nu, plant[4][1])]), 1)


class Sums:
    """What least sets can add up to over all looks of a room, all standings that may give them, and all gusts."""

    def __init__(self, plant, sight, room):
        self.plant = plant
        self.sight = sight
        self.room = room
        self.s, self.n = len(sight[0]), room[0]
        self.ready = {}

    def points(self, many, size):
        """A look and so many standings, as so many unknowns tell them."""
        y = unknowns_told(size, 0, self.s)
        return (y, [unknowns_told(size, self.s + j * self.n, self.n) for j in range(many)])

    def _tableau(self, many):
        # The rows of so many standings that may give one look, and a tableau of them: these hang on nothing else.
        if many not in self.ready:
            size = self.s + many * self.n
            y, standings = self.points(many, size)
            asked = Gathered(size)
            for x in standings:
                asked.ask(self.room, x)
                asked.ask(self.sight[1], slip_told(self.sight, x, y, size))
            tableau = asked.tableau()
            tableau.settle()
            self.ready[many] = (asked, tableau)
        return self.ready[many]

    def at_most(self, tie):
        """The tuple (sum, look, standings, gusts, triples) where the sum of a tie is greatest.

        triples has the weights of the room, of the slips and of the gusts, for each of its rows of the target.
        """
        asked, tableau = self._tableau(len(tie.rows))
        form, alone, blown = ((0, 1),) * self.s, [], []
        for (members, _), share in tie.rows:
            told = form_times((share, 1), divided(members, 1))
            form += column_sums(told, self.plant[0], self.n)
            alone.append(times((share, 1), reach((members, 0), self.plant[3])))
            blown.append(greatest(self.plant[5], column_sums(told, self.plant[2], self.plant[5][0])))
        _, value, point, weights = greatest_at(tableau, form)
        every = plus(value, total(alone + [one[1] for one in blown]))
        standings = [point[self.s + j * self.n:self.s + j * self.n + self.n] for j in range(len(tie.rows))]
        shared = asked.shared(weights)
        triples = tuple([told + (one[3],) for told, one in zip(zip(shared[::2], shared[1::2]), blown)])
        return (every, point[:self.s], standings, [one[2] for one in blown], triples)
